"""What is promised over the whole program: point 4 of the document."""

import random
import unittest

from nestdeep.bench import Bench
from nestdeep.contexts import depth_in, house_in
from nestdeep.errors import TooMany
from nestdeep.forming import form_of
from nestdeep.house import House
from nestdeep.nestpapers import chain_moment, house_fault, keeps
from nestdeep.nests import greatest_depth, house_ring, is_endless, lines_of
from nestdeep.orders import never_deeper
from nestdeep.parting import parting
from nestdeep.plateaus import chain_to
from nestdeep.programs import Program
from nestdeep.runs import moments, played
from nestdeep.terms import in_order, least_sets
from tests.contexts import is_deeper, some_context
from tests.helpers import Case
from tests.houses import size, some_house, some_sizes
from tests.programs import some_functions, target

GO = ("go",)


def events_of_way(program, instance, body, way, ways):
    """The events that go a way through a body of an instance; ways has those of what comes back."""
    steps, stop = way
    events = []
    for statement, step in zip(body, steps):
        events.extend(passing(program, instance, statement, step, ways))
    if stop == "call":
        return [*events, GO]
    if isinstance(stop, str):
        return events
    return [*events, *within(program, instance, body[len(steps)], stop, ways)]


def passing(program, instance, statement, step, ways):
    word = statement[0]
    if word in ("take", "shut"):
        return [GO]
    if word in ("call", "do"):
        called = target(program, instance, statement[1] if word == "do" else statement[1:])
        return [GO, *events_of_way(program, called, program.body(called[0]), ways[called], ways), GO]
    if word == "loop":
        rounds = [("round",) if event is None else event for many, way in step
                  for event in [None, *events_of_way(program, instance, statement[2], way, ways), GO] * many]
        return [*rounds, ("leave",)]
    return [*within(program, instance, statement, step, ways), GO]


def within(program, instance, statement, stop, ways):
    word = statement[0]
    if word == "room":
        return [GO, *events_of_way(program, instance, statement[1], stop, ways)]
    if word == "either":
        return [(("left", "right")[stop[0]],), *events_of_way(program, instance, statement[1 + stop[0]], stop[1], ways)]
    pairs, way = stop
    rounds = passing(program, instance, statement, pairs, ways)[:-1]
    return [*rounds, ("round",), *events_of_way(program, instance, statement[2], way, ways)]


def run_of(house, chain):
    """The events of a run to the moment of a chain of the house; loops and counts must be small."""
    events = []
    for interrupt, count, (links, returns) in chain:
        segment = [] if interrupt is None else [("come", interrupt)]
        for instance, way in links:
            segment.extend(events_of_way(house.program, instance, house.program.body(instance[0]), way, dict(returns)))
        events.extend(segment * count)
    return events


def renamed(value, names):
    """The value with other names; words of statements and tags stay."""
    if isinstance(value, tuple) and len(value) == 2 and value[0] == "shut":
        return "shut", tuple(sorted(renamed(value[1], names)))
    if isinstance(value, tuple):
        return tuple(renamed(item, names) for item in value)
    return names.get(value, value) if isinstance(value, str) else value


class Guarantees(Case):
    def test_a_chain_is_a_moment_of_a_run(self):
        chance = random.Random(1)
        count = longest = 0
        for _ in range(300):
            house = some_house(chance, times=(1, 2, 3))
            if house is None or is_endless(house):
                continue
            sizes = some_sizes(chance, house.program)
            chains = [chain_to(house, line) for line in lines_of(house)]
            holds, paper = keeps(house, sizes, max(0, greatest_depth(house, sizes)[0] - 1))
            for chain in chains if holds else [*chains, paper]:
                events = run_of(house, chain)
                machine = played(house, events)
                self.is_same((machine.line, machine.shut), chain_moment(house, chain), (house.program, chain))
                self.is_same(list(moments(house, events))[-1], chain_moment(house, chain))
                count, longest = count + 1, max(longest, len(events))
        self.assertGreater(count, 250)
        self.assertGreater(longest, 25)

    def test_a_limit_with_a_claim_is_never_exceeded(self):
        chance = random.Random(2)
        runs = 0
        for _ in range(150):
            house = some_house(chance, times=(1, 2, 10 ** 12), loops=(1, 2, None))
            if house is None or is_endless(house):
                continue
            sizes = some_sizes(chance, house.program)
            depth = greatest_depth(house, sizes)[0]
            self.assertIsNone(house_fault(house, sizes, depth, keeps(house, sizes, depth)[1]))
            machine = played(house, [])
            for _ in range(60):
                events = machine.possible()
                if not events:
                    break
                machine.do(chance.choice(events))
                self.assertLessEqual(machine.depth(sizes), depth)
                runs += 1
        self.assertGreater(runs, 2000)

    def test_an_endless_house_has_a_ring_and_others_have_lines(self):
        chance = random.Random(3)
        counts = {True: 0, False: 0}
        for _ in range(300):
            house = some_house(chance, loops=(1, None), most=3)
            if house is not None:
                self.assertEqual(house_ring(house) is not None, is_endless(house))
                counts[is_endless(house)] += 1
        self.assertGreater(min(counts.values()), 20)

    def test_forms_differ_exactly_if_a_context_parts_the_functions(self):
        chance = random.Random(4)
        parted = same = 0
        for _ in range(250):
            program = Program(some_functions(chance, 5, recursive=chance.random() < .3, kinds=((), ("x",), ("y", "x"))))
            for one in program.names():
                for other in program.names():
                    params = [sorted(program.params(name)) for name in (one, other)]
                    if one >= other or params[0] != params[1]:
                        continue
                    forms = [form_of(program, name) for name in (one, other)]
                    frames = {frame for form in forms for term in form.terms for frame, _ in term[0]}
                    context = parting(*forms) or some_context(chance, params[0], frames)
                    sizes = {**{frame: 1 for frame in program.frames()}, **dict(context[2])}
                    context = (*context[:2], tuple(sorted(sizes.items())), context[3])
                    depths = []
                    for name, form in zip((one, other), forms):
                        house, told = house_in(program, name, context)
                        depths.append(None if is_endless(house) else greatest_depth(house, told)[0])
                        self.is_same(depth_in(form, context), depths[-1])
                    self.assertEqual(depths[0] != depths[1], forms[0] != forms[1])
                    parted, same = parted + (depths[0] != depths[1]), same + (depths[0] == depths[1])
                    if is_deeper(*depths):
                        self.assertFalse(never_deeper(*forms))
        self.assertGreater(min(parted, same), 30, (parted, same))

    def test_what_is_passed_decides_whether_it_returns(self):
        # behind is deeper than all else exactly if the function returns: its form tells it.
        chance = random.Random(5)
        counts = {True: 0, False: 0}
        for _ in range(200):
            program = Program(some_functions(chance, 4, kinds=((), ("x",), ("y", "x"))))
            for name in program.names():
                form = form_of(program, name)
                for back in ((), form.callbacks, form.callbacks[:1], form.callbacks[1:]):
                    context = (tuple((callback in back, 0) for callback in form.callbacks), (), tuple((frame, 1) for frame in program.frames()), 10 ** 9)
                    house, sizes = house_in(program, name, context)
                    if not is_endless(house):
                        returns = any(set(ends) <= set(back) for ends in form.returns)
                        self.assertEqual(greatest_depth(house, sizes)[0] >= 10 ** 9, returns)
                        counts[returns] += 1
        self.assertGreater(min(counts.values()), 100)

    def test_names_and_the_order_of_functions_have_no_other_effect(self):
        chance = random.Random(6)
        names = {"f": "zz", "g": "h", "h": "aa", "k": "f", "m": "k", "a": "c", "b": "a", "u": "w", "v": "b", "x": "y", "y": "d"}
        count = 0
        for _ in range(250):
            rows = some_functions(chance, 5)
            others = [renamed(row, names) for row in rows]
            chance.shuffle(others)
            one, other = Program(rows), Program(others)
            for name in one.names():
                form, twin = form_of(one, name), form_of(other, names[name])
                self.is_same(twin.callbacks, tuple(sorted(renamed(form.callbacks, names))))
                self.assertEqual({frozenset(sets) for sets in renamed(form.endless, names)}, {frozenset(sets) for sets in twin.endless})
                told = [(tuple(sorted(line)), tuple(sorted(shut)), tag, tuple(sorted(back))) for line, shut, tag, back in renamed(form.terms, names)]
                self.is_same(tuple(in_order(told)), twin.terms)
                self.is_same(least_sets([tuple(sorted(sets)) for sets in renamed(form.returns, names)]), twin.returns)
                count += 1
        self.assertGreater(count, 500)

    def test_a_change_that_leaves_form_and_parameters_is_noticed_by_nobody(self):
        chance = random.Random(7)
        count = 0
        for _ in range(150):
            rows = some_functions(chance, 5, recursive=chance.random() < .5, kinds=((), (), ("x",)))
            bench = Bench()
            try:
                bench.put(rows)
            except TooMany:
                continue
            plain = [name for name in bench.current().names() if not bench.current().params(name)]
            for name in plain:
                if not is_endless(House(bench.current(), name)):
                    bench.set_entry("h", House(bench.current(), name))
            before = {row[0]: bench.form(row[0]) for row in rows}
            name, params, body = chance.choice(rows)
            same = chance.choice([(*body, ("room", ())), (("either", body, body),), (("room", body),), (*body, ("either", (), (("stop",),)))])
            if len(same) > 12:
                continue
            try:
                news = bench.put([(name, params, same)])
            except Exception as error:
                self.assertEqual(type(error).__name__, "InvalidProgram")
                continue
            if bench.form(name) == before[name]:
                group = {one for one in bench.reach(name) if name in bench.reach(one)}
                self.is_same(news, (tuple(sorted(group)), (), ()))
                self.assertEqual({row[0]: bench.form(row[0]) for row in rows}, before)
                count += 1
        self.assertGreater(count, 60)


if __name__ == "__main__":
    unittest.main()
