import inspect

from nestdeep.errors import InvalidRun, InvalidSizes
from nestdeep.house import House
from nestdeep.machine import Machine
from nestdeep.programs import Program
from nestdeep.runs import deepest, is_run, moments, played
from tests.helpers import BIG, Case, ODD_VALUES

GO, LEFT, RIGHT, ROUND, LEAVE, COME = ("go",), ("left",), ("right",), ("round",), ("leave",), ("come", "u")
MAIN = ("main", (), (("loop", 2, (("take", 2, "p"), ("shut", ("u",)))), ("take", 1, "r")))
HOUSE = House(Program([MAIN, ("tick", (), (("take", 3, "q"),))]), "main", {"u": ("tick", 2, ())})
RUN = [COME, GO, GO, ROUND, GO, COME, COME, GO, GO, GO, GO, GO, GO, LEAVE, GO, GO]
MOMENTS = [
    ((), ()), ((), ()), ((("q", 3),), ()), ((), ()), ((), ()), ((("p", 2),), ()), ((("p", 2),), ()), ((("p", 2),), ()),
    ((("p", 2), ("q", 3)), ()), ((("p", 2),), ()), ((("p", 2), ("q", 3)), ()), ((("p", 2),), ()), ((("p", 2),), ("u",)),
    ((("p", 2),), ("u",)), ((("p", 2),), ("u",)), ((("p", 2), ("r", 1)), ("u",)), ((), ()),
]
SIZES = {"p": 1, "q": 1, "r": 1}
NO_LISTS = [value for value in ODD_VALUES if not isinstance(value, (list, tuple))]
WRONG_EVENTS = [*ODD_VALUES, "go", ["go"], ("go", 1), ("come",), ("come", "v"), ROUND, RIGHT]


class Runs(Case):
    def test_the_example(self):
        main = ("main", (), (("loop", 10 ** 12, (("take", 2, "p"), ("shut", ("u",)))),))
        house = House(Program([main, ("tick", (), (("take", 1, "q"),))]), "main", {"u": ("tick", 1, ())})
        self.gives((15, (("p", 2), ("q", 1))), deepest, house, [ROUND, GO, COME, GO, GO, GO], {"p": 3, "q": 9})

    def test_is_run(self):
        for length in range(len(RUN) + 1):
            self.gives(True, is_run, HOUSE, RUN[:length])
            self.gives(True, is_run, HOUSE, tuple(RUN[:length]))
        self.assertIs(is_run(house=HOUSE, value=RUN), True)

    def test_no_runs(self):
        for value in [*NO_LISTS, {"go": 1}, {GO}, "go", RUN + [GO], RUN[1:], [GO], [ROUND, ROUND], [None], [["come", "u"]]]:
            self.assertIs(is_run(HOUSE, value), False, value)
        for value in ([1], (1,), [()], ((),), (None,)):
            self.assertIs(is_run(HOUSE, value), False, value)

    def test_the_empty_run(self):
        self.gives(True, is_run, HOUSE, [])
        self.gives(True, is_run, HOUSE, ())
        self.assertTrue(played(HOUSE, []) == Machine(HOUSE))
        self.is_same(list(moments(HOUSE, ())), [((), ())])
        self.gives((0, ()), deepest, HOUSE, [], SIZES)

    def test_played(self):
        for length in range(len(RUN) + 1):
            machine = played(HOUSE, RUN[:length])
            self.assertIs(type(machine), Machine)
            self.is_same((machine.line, machine.shut), MOMENTS[length])
            self.is_same(machine.events(), RUN[:length])
            self.assertTrue(machine == played(HOUSE, tuple(RUN[:length])))
        self.assertIs(played(house=HOUSE, events=RUN).ended, True)
        one, other = played(HOUSE, RUN[:3]), played(HOUSE, RUN[:3])
        one.do(ROUND)
        self.is_same(other.events(), RUN[:3])

    def test_played_errors(self):
        for value in NO_LISTS:
            self.fails(InvalidRun, {"position": None}, played, HOUSE, value)
        for event in WRONG_EVENTS:
            self.fails(InvalidRun, {"position": 2}, played, HOUSE, [*RUN[:2], event, None])
            self.fails(InvalidRun, {"position": len(RUN)}, played, HOUSE, (*RUN, event))
        self.fails(InvalidRun, {"position": 0}, played, HOUSE, [GO, None])

    def test_moments(self):
        found = moments(HOUSE, RUN)
        self.assertTrue(inspect.isgenerator(found))
        self.is_same(list(found), MOMENTS)
        self.is_same(list(moments(house=HOUSE, events=tuple(RUN))), MOMENTS)
        self.is_same(list(moments(HOUSE, RUN)), MOMENTS)

    def test_moments_raise_when_they_come_to_it(self):
        for position in (0, 1, 5, len(RUN)):
            events = [*RUN[:position], None, GO]
            found, seen = moments(HOUSE, events), []
            with self.assertRaises(InvalidRun) as caught:
                for moment in found:
                    seen.append(moment)
            self.is_same(caught.exception.position, position)
            self.is_same(seen, MOMENTS[:position + 1])

    def test_moments_of_no_list(self):
        for value in NO_LISTS:
            with self.assertRaises(InvalidRun) as caught:
                list(moments(HOUSE, value))
            self.is_same(caught.exception.position, None)
            with self.assertRaises(InvalidRun):
                next(moments(HOUSE, value))

    def test_deepest(self):
        self.gives((5, (("p", 2), ("q", 3))), deepest, HOUSE, RUN, SIZES)
        self.gives((2 * BIG + 3, (("p", 2), ("q", 3))), deepest, HOUSE, RUN, {"p": BIG, "q": 1, "r": 1, "z": 0})
        self.gives((104, (("p", 2), ("r", 1))), deepest, HOUSE, tuple(RUN), {"p": 2, "q": 1, "r": 100})
        self.gives((3, (("q", 3),)), deepest, HOUSE, RUN[:4], SIZES)
        self.is_same(deepest(house=HOUSE, events=RUN, sizes=SIZES), (5, (("p", 2), ("q", 3))))

    def test_deepest_tells_the_first_line(self):
        main = ("main", (), (("room", (("take", 1, "b"),)), ("take", 1, "a"), ("room", (("take", 1, "c"),))))
        house = House(Program([main]), "main")
        events = [GO] * 7
        self.is_same(deepest(house, events[:4], {"a": 1, "b": 1, "c": 1}), (1, (("b", 1),)))
        self.is_same(deepest(house, events[:4], {"a": 2, "b": 1, "c": 1}), (2, (("a", 1),)))
        self.is_same(deepest(house, events, {"a": 1, "b": 2, "c": 1}), (2, (("b", 1),)))
        self.is_same(deepest(house, events, {"a": 1, "b": 1, "c": 1}), (2, (("a", 1), ("c", 1))))

    def test_deepest_errors(self):
        for value in NO_LISTS:
            self.fails(InvalidRun, {"position": None}, deepest, HOUSE, value, None)
        self.fails(InvalidRun, {"position": 1}, deepest, HOUSE, [COME, RIGHT], None)
        self.fails(InvalidRun, {"position": len(RUN)}, deepest, HOUSE, [*RUN, GO], {})
        for sizes in [value for value in ODD_VALUES if not isinstance(value, dict)]:
            self.fails(InvalidSizes, {"name": None}, deepest, HOUSE, RUN, sizes)
            self.fails(InvalidSizes, {"name": None}, deepest, HOUSE, [], sizes)
        self.fails(InvalidSizes, {"name": "p"}, deepest, HOUSE, [], {})
        self.fails(InvalidSizes, {"name": "q"}, deepest, HOUSE, RUN, {"p": 1, "r": 1})
        for wrong in (0, -1, True, False, None, "1", (1,), []):
            self.fails(InvalidSizes, {"name": "q"}, deepest, HOUSE, RUN, {"r": wrong, "q": wrong, "p": 1})

    def test_the_house_stays(self):
        before = House(HOUSE.program, "main", HOUSE.handlers())
        played(HOUSE, RUN).clone().events()
        self.assertTrue(HOUSE == before)
