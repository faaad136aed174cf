import nestdeep.errors as errors
from tests.helpers import Case

BASES = {
    "InputError": (ValueError, {
        "InvalidLine": ("value",), "InvalidBody": ("place",), "InvalidProgram": ("problem", "name"),
        "InvalidText": ("line",), "InvalidHouse": ("problem", "name"), "InvalidChoice": ("value",),
        "InvalidRun": ("position",), "InvalidTerm": ("value",), "InvalidForm": ("problem", "value"),
        "InvalidWay": ("value",), "InvalidChain": ("value",), "InvalidContext": ("value",),
        "InvalidHole": ("problem", "value"), "InvalidFilling": ("value",), "NotClosed": ("returned",),
        "InvalidMends": ("position",), "InvalidSizes": ("name",), "InvalidCount": ("value",),
        "InvalidName": ("value",), "InvalidRow": ("value",), "InvalidClaim": ("value",),
    }),
    "MissingError": (LookupError, {
        "UnknownFunction": ("name",), "UnknownFrame": ("name",), "UnknownInterrupt": ("name",),
        "UnknownInstance": ("value",), "UnknownTerm": ("value",), "UnknownLine": ("value",),
        "UnknownName": ("name",),
    }),
    "StateError": (RuntimeError, {"Endless": ("ring",), "NoneFits": (), "NothingToUndo": ()}),
    "LimitError": (ArithmeticError, {"TooMany": ("name",)}),
}


class Errors(Case):
    def test_bases(self):
        for name, (base, below) in BASES.items():
            self.assertEqual(getattr(errors, name).__bases__, (base,))
            for lower in below:
                self.assertEqual(getattr(errors, lower).__bases__, (getattr(errors, name),), lower)

    def test_fields_by_position_and_by_name(self):
        values = [("x", 5), ((), None), (None, "frame"), ((0, 1), ["any"])]
        for _, below in BASES.values():
            for name, fields in below.items():
                for pair in values:
                    made = [getattr(errors, name)(*pair[:len(fields)]),
                            getattr(errors, name)(**dict(zip(fields, pair)))]
                    for error in made:
                        for field, value in zip(fields, pair):
                            self.is_same(getattr(error, field), value, name)
                        self.assertIsInstance(str(error), str)

    def test_raised_and_caught_by_base(self):
        for base, (root, below) in BASES.items():
            for name, fields in below.items():
                for kind in (root, getattr(errors, base), getattr(errors, name)):
                    with self.assertRaises(kind):
                        raise getattr(errors, name)(*["x"] * len(fields))

    def test_only_the_listed_relations(self):
        listed = dict(BASES)
        for base, (_, below) in BASES.items():
            listed.update(below)
            for other in BASES:
                if other != base:
                    self.assertFalse(issubclass(getattr(errors, base), getattr(errors, other)))
        for name in listed:
            self.assertEqual(getattr(errors, name).__module__, "nestdeep.errors")
