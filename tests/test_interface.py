"""The names, arguments and attributes of the interface, as the document lists them, each defined in its own file."""

import importlib
import inspect
import unittest

FUNCTIONS = {
    "lines": {"is_line": "value", "line_sum": "lines", "line_times": "line count", "line_size": "line sizes", "is_within": "line other", "line_text": "line", "parse_line": "text"},
    "functions": {"is_name": "value", "check_body": "body", "statements": "body"},
    "programtexts": {"program_text": "program", "parse_program": "text"},
    "runs": {"is_run": "house value", "played": "house events", "moments": "house events", "deepest": "house events sizes"},
    "mixes": {"is_covered": "line lines", "weights": "line lines", "parting_sizes": "line lines", "corners": "lines", "greatest": "lines sizes"},
    "terms": {"is_term": "value", "in_order": "terms", "least_terms": "terms", "least_sets": "sets", "is_covered_term": "term terms", "cover": "term terms", "parting_of": "term terms", "put_on": "first second"},
    "mixpapers": {"is_weights": "line lines paper", "is_parting": "line lines paper", "is_cover": "term terms paper", "is_parting_of": "term terms paper"},
    "bodies": {"body_form": "body", "function_form": "function", "in_turn": "first second", "either": "first second", "room": "form"},
    "loops": {"loop": "form rounds"}, "ways": {"reach": "body way", "way_to": "body term"}, "formtexts": {"form_text": "form", "read_form": "text"},
    "instances": {"needed": "program function", "instance_form": "program function instance"}, "forming": {"form_of": "program function", "forms": "program"},
    "rings": {"chain_of": "program function term", "ring_of": "program function returned", "chain_term": "program function paper", "is_ring": "program function returned paper"},
    "claims": {"claim_of": "program function", "claim_fault": "program function claim"},
    "nests": {"is_endless": "house", "house_ring": "house", "lines_of": "house", "greatest_depth": "house sizes"}, "plateaus": {"chain_to": "house line"},
    "nestpapers": {"is_house_chain": "house value", "is_house_ring": "house value", "chain_moment": "house chain", "keeps": "house sizes limit", "house_fault": "house sizes limit value"},
    "contexts": {"is_context": "callbacks value", "depth_in": "form context", "house_in": "program function context"},
    "parting": {"difference": "one other", "parting": "one other", "is_parting_context": "one other value"},
    "orders": {"never_deeper": "one other", "order_paper": "one other", "is_order_paper": "one other holds value"},
    "sizing": {"slack": "lines sizes limit", "common_slack": "lines sizes limit"},
    "holes": {"fits": "hole_house sizes limit filling", "filling_fault": "hole_house sizes limit filling", "most_cells": "hole_house sizes limit", "greatest_filling": "hole_house sizes limit", "joined": "*fillings"},
    "mends": {"mended": "house mends", "own_mends": "house chain", "least_mends": "house sizes limit", "no_tree": "house sizes limit depth", "is_no_tree": "house sizes limit depth value"},
    "housetexts": {"entry_text": "name entry", "parse_entry": "program text"},
    "judge": {"is_claimed": "value", "is_paper": "claimed value", "paper_of": "claimed"},
}
# Of each class the file, the arguments and the methods; behind a bare star stands what is passed by name only.
CLASSES = {
    "Program": ("programs", "functions", {"names": "", "functions": "", "frames": "", "interrupts": "", "params": "name", "body": "name", "uses": "name"}),
    "House": ("house", "program task handlers=None * shut=()", {"handlers": "", "handler": "interrupt", "with_shut": "interrupts * handler=None"}),
    "Machine": ("machine", "house", {"stack": "", "depth": "sizes", "possible": "", "do": "event", "events": "", "clone": ""}),
    "Form": ("forms", "callbacks=() endless=() terms=()", {"lines": "tag * shut=() returned=()", "at_most": "other", "shows": "value"}),
    "Hole": ("holes", "name params=() * returns=() endless=() kinds=()", {"form_of": "filling"}),
    "HoleHouse": ("holes", "functions hole task handlers=None * shut=()", {"lines": "filling"}),
    "Bench": ("bench", "", {"put": "functions", "drop": "names", "set_entry": "name house * sizes=None limit=None", "drop_entry": "name", "undo": "", "current": "", "names": "", "entry": "name", "state": "name",
                            "form": "function", "reach": "function", "lines": "name"}),
    "Desk": ("desk", "", {"say": "row", "play": "rows"}),
}
PROPERTIES = {"Form": "callbacks endless terms returns", "Hole": "returns endless kinds"}
SPECIAL = {"Program": "contains len iter eq repr", "House": "contains len iter eq repr", "Machine": "len eq repr", "Form": "len eq repr", "Hole": "eq repr", "Bench": "eq"}


def told(action, skipped=0):
    """The arguments of a function, as written above."""
    words, star = [], False
    for parameter in list(inspect.signature(action).parameters.values())[skipped:]:
        if parameter.kind is parameter.KEYWORD_ONLY and not star:
            words.append("*")
            star = True
        name = f"*{parameter.name}" if parameter.kind is parameter.VAR_POSITIONAL else parameter.name
        words.append(name if parameter.default is parameter.empty else f"{name}={parameter.default!r}")
    return " ".join(words)


class Interface(unittest.TestCase):
    def test_functions(self):
        for file, functions in FUNCTIONS.items():
            module = importlib.import_module(f"nestdeep.{file}")
            for name, wanted in functions.items():
                action = getattr(module, name)
                self.assertEqual((action.__module__, told(action)), (f"nestdeep.{file}", wanted), name)

    def test_classes(self):
        for name, (file, wanted, methods) in CLASSES.items():
            kind = getattr(importlib.import_module(f"nestdeep.{file}"), name)
            self.assertEqual((kind.__module__, told(kind)), (f"nestdeep.{file}", wanted))
            for method, arguments in methods.items():
                self.assertIn(method, vars(kind))
                self.assertEqual(told(vars(kind)[method], 1), arguments, method)
            for one in PROPERTIES.get(name, "").split():
                self.assertIsInstance(vars(kind)[one], property)
            for one in SPECIAL.get(name, "").split():
                self.assertIn(f"__{one}__", vars(kind))


if __name__ == "__main__":
    unittest.main()
