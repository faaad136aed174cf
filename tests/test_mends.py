import itertools
import random
import unittest

from nestdeep.errors import InvalidChain, InvalidCount, InvalidMends, InvalidSizes, TooMany
from nestdeep.house import House
from nestdeep.mends import is_no_tree, least_mends, mended, no_tree, own_mends
from nestdeep.nestpapers import is_house_chain, is_house_ring, keeps
from nestdeep.nests import greatest_depth, house_ring, is_endless, lines_of
from nestdeep.plateaus import chain_to
from tests.helpers import BIG, ODD_VALUES, Case
from tests.houses import call, house_of, size, some_house, some_sizes
from tests.odd import at, odd_values, oddly_spoilt, parts, put
from tests.programs import judged_house_chain

A, B, STOP = ("take", 1, "a"), ("take", 1, "b"), ("stop",)
NINE = tuple(call(letter) for letter in "cdefghijk")
PLAIN = {letter: () for letter in "cdefghijk"}


def shut(*names):
    return ("shut", names)


def order(mend):
    return (0 if mend[0] is None else 1, mend[0] or "", mend[1])


def all_mends(house):
    return [(segment, interrupt) for segment in [None, *house] for interrupt in house]


def modelled_mended(house, mends):
    """The mended house, made anew."""
    shuts = {None: set(house.shut), **{name: set(house.handler(name)[2]) for name in house}}
    for segment, interrupt in mends:
        shuts[segment].add(interrupt)
    handlers = {name: (*house.handler(name)[:2], tuple(sorted(shuts[name]))) for name in house}
    return House(house.program, house.task, handlers, shut=tuple(sorted(shuts[None])))


def does_keep(house, sizes, limit):
    return not is_endless(house) and greatest_depth(house, sizes)[0] <= limit


def modelled_own(chain):
    kinds = [interrupt for interrupt, count, _ in chain for _ in range(min(count, 2))]
    return tuple(sorted({(kinds[below], kinds[above]) for below in range(len(kinds)) for above in range(below + 1, len(kinds))}, key=order))


def right_tree(house, sizes, limit, depth, value):
    """Whether this is a no-tree, word for word as the document has it."""
    if type(value) is not tuple or len(value) != 2:
        return False
    told, branches = value
    wanted = ()
    if is_house_ring(house, told):
        wanted = () if told[0] is None or depth == 0 else ((None, told[0]),)
    elif is_house_chain(house, told) and size(judged_house_chain(house, told)[0], sizes) > limit:
        wanted = modelled_own(told) if depth else ()
    else:
        return False
    if type(branches) is not tuple or len(branches) != len(wanted):
        return False
    for mend, branch in zip(wanted, branches):
        if type(branch) is not tuple or len(branch) != 2 or repr(branch[0]) != repr(mend):
            return False
        if not right_tree(modelled_mended(house, [mend]), sizes, limit, depth - 1, branch[1]):
            return False
    return True


def small(handlers=None, shut=()):
    return house_of(handlers or {"u": ("hu", 2, ()), "v": ("hv", 1, ("u",))}, shut, main=(A,), hu=(("take", 2, "b"),), hv=(("take", 4, "c"),))


class Mended(Case):
    def test_mends(self):
        house = small()
        for mends in ([], [(None, "u")], [("u", "u")], [("v", "v"), (None, "u")], [("u", "v"), ("u", "u"), (None, "v")], [(None, "u"), (None, "u")], [("v", "u")], [("v", "u"), ("v", "u"), ("u", "v")],
                      all_mends(house), list(reversed(all_mends(house)))):
            self.assertEqual(mended(house, mends), modelled_mended(house, mends))
            self.assertEqual(mended(house, tuple(mends)), modelled_mended(house, mends))
        self.assertEqual(mended(house, [("v", "u")]), house)
        self.assertEqual(house, small())
        self.assertEqual(mended(house=house, mends=[(None, "v")]).shut, ("v",))
        self.assertEqual(mended(house, [("u", "v"), ("u", "u")]).handlers(), {"u": ("hu", 2, ("u", "v")), "v": ("hv", 1, ("u",))})

    def test_an_interrupt_never_comes_above_such_a_segment(self):
        house, sizes = small(), {"a": 1, "b": 1, "c": 1}
        for mends, depth in (([], 9), ([(None, "u")], 5), ([(None, "v")], 5), ([("u", "u")], 7), ([("u", "v")], 5), ([(None, "u"), (None, "v")], 1), ([("u", "u"), ("u", "v")], 5)):
            self.is_same(greatest_depth(mended(house, mends), sizes)[0], depth, mends)

    def test_no_mends(self):
        house = small()
        for value in (*ODD_VALUES, *odd_values(), {("u", "v"): 1}, "uv"):
            if not isinstance(value, (list, tuple)):
                self.fails(InvalidMends, {"position": None}, mended, house, value)
        for value in (*ODD_VALUES, *odd_values(), (None,), ("u", "v", "u"), ["u", "v"], ("w", "u"), ("u", "w"), (None, None), ("u", None), ("hu", "u"), ("", "u"), (0, "u"), ("u", "main")):
            for ahead in ([], [(None, "u")], [("u", "u"), ("v", "u")]):
                with self.assertRaises(InvalidMends) as caught:
                    mended(house, [*ahead, value, None])
                self.is_same(caught.exception.position, len(ahead))
        for mend in oddly_spoilt(("u", "v")):
            self.fails(InvalidMends, {"position": 1}, mended, house, ((None, "v"), mend))
        self.fails(InvalidMends, {"position": 0}, mended, house_of(None, main=()), [(None, "u")])
        self.assertEqual(mended(house_of(None, main=()), []), house_of(None, main=()))


class OwnMends(Case):
    def test_chains(self):
        house = small()
        task = (None, 1, (((("main", ()), ((), "now")),), ()))
        hu, hv = (((("hu", ()), ((), "now")),), ()), (((("hv", ()), ((), "now")),), ())
        for piles, wanted in (
            ((), ()), ((("u", 1, hu),), ((None, "u"),)), ((("u", 2, hu),), ((None, "u"), ("u", "u"))), ((("u", 1, hu), ("u", 1, hu)), ((None, "u"), ("u", "u"))),
            ((("v", 1, hv),), ((None, "v"),)), ((("u", 1, hu), ("v", 1, hv)), ((None, "u"), (None, "v"), ("u", "v"))),
            ((("u", 2, hu), ("v", 1, hv)), ((None, "u"), (None, "v"), ("u", "u"), ("u", "v"))),
        ):
            self.gives(wanted, own_mends, house, (task, *piles))
            self.is_same(modelled_own((task, *piles)), wanted)
        other = house_of({"u": ("hu", 3, ()), "v": ("hv", 2, ())}, main=(), hu=(), hv=())
        self.gives(((None, "u"), (None, "v"), ("u", "u"), ("u", "v"), ("v", "u")), own_mends, house=other, chain=(task, ("u", 1, hu), ("v", 1, hv), ("u", 1, hu)))
        self.gives(((None, "u"), (None, "v"), ("u", "v"), ("v", "u"), ("v", "v")), own_mends, other, (task, ("v", 1, hv), ("u", 1, hu), ("v", 1, hv)))
        for value in [*ODD_VALUES, *odd_values(), (), (task, ("u", 3, hu)), [task], (task, ("v", 1, hv), ("u", 1, hu)), *oddly_spoilt((task, ("u", 1, hu)))]:
            with self.assertRaises(InvalidChain) as caught:
                own_mends(house, value)
            self.assertIs(caught.exception.value, value)

    def test_some_chains(self):
        chance = random.Random(85)
        for _ in range(150):
            house = some_house(chance)
            if house is None or is_endless(house):
                continue
            for line in lines_of(house)[:3]:
                chain = chain_to(house, line)
                own = own_mends(house, chain)
                self.is_same(own, modelled_own(chain))
                for mend in all_mends(house):
                    # An own mend stops the chain, another one leaves it as it is.
                    self.assertEqual(is_house_chain(mended(house, [mend]), chain), mend not in own)


class LeastMends(Case):
    def test_small_houses(self):
        house, sizes = small(), {"a": 1, "b": 1, "c": 1}
        for limit, wanted in ((9, ()), (8, ((None, "u"),)), (5, ((None, "u"),)), (4, ((None, "u"), (None, "v"))), (1, ((None, "u"), (None, "v"))), (0, None), (BIG, ())):
            self.gives(wanted, least_mends, house, sizes, limit)
        self.gives(((None, "v"),), least_mends, house, {"a": 1, "b": 1, "c": 9}, 5)
        # What the task shuts never comes, so a mend of the task is never worse, and comes first.
        self.gives(((None, "u"),), least_mends, house, {"a": 1, "b": 1, "c": 3}, 13)
        self.gives(((None, "u"),), least_mends, house_of({"u": ("hu", 2, ())}, main=(), hu=(A,)), {"a": 1}, 1)
        self.gives(((None, "u"),), least_mends, house_of({"u": ("hu", 2, ())}, main=(), hu=(A,)), {"a": 1}, 0)

    def test_mends_that_the_house_has(self):
        house = small({"u": ("hu", 2, ("u",)), "v": ("hv", 1, ())}, ("v",))
        self.gives((), least_mends, house, {"a": 1, "b": 1, "c": 1}, 3)
        self.gives(((None, "u"),), least_mends, house, {"a": 1, "b": 1, "c": 1}, 2)
        self.gives(None, least_mends, house, {"a": 1, "b": 1, "c": 1}, 0)

    def test_endless_houses(self):
        deep = (A, call("deep"))
        self.gives(None, least_mends, house_of({"u": ("hu", 1, ())}, main=deep, deep=deep, hu=()), {"a": 1}, BIG)
        one = house_of({"u": ("hu", 1, ()), "v": ("deep", 1, ())}, main=(), deep=deep, hu=(("take", 5, "a"),))
        self.gives(((None, "v"),), least_mends, one, {"a": 1}, 5)
        self.gives(((None, "u"), (None, "v")), least_mends, one, {"a": 1}, 4)
        three = house_of({"u": ("deep", 1, ()), "v": ("deep", 1, ()), "w": ("deep", 1, ())}, main=(), deep=deep)
        self.gives(None, least_mends, three, {"a": 1}, BIG)

    def test_some_houses(self):
        """All sets of at most two mends are tried one after another; no-trees are there exactly if they must."""
        chance = random.Random(86)
        counts = {}
        for _ in range(130):
            house = some_house(chance, loops=(1, 2, None), often=.1)
            if house is None:
                continue
            sizes = some_sizes(chance, house.program)
            mends = all_mends(house)
            sets = [(), *((mend,) for mend in mends), *itertools.combinations(mends, 2)]
            houses = [modelled_mended(house, one) for one in sets]
            depths = [None if is_endless(one) else greatest_depth(one, sizes)[0] for one in houses]
            known = sorted({depth for depth in depths if depth is not None})
            for limit in {*chance.sample(known, min(3, len(known))), chance.randint(0, 40), *(depth - 1 for depth in known[:1] if depth)}:
                wanted = next((one for one, depth in zip(sets, depths) if depth is not None and depth <= limit), None)
                self.gives(wanted, least_mends, house, sizes, limit)
                for depth in range(3):
                    tree = no_tree(house, sizes, limit, depth)
                    self.assertEqual(tree is None, wanted is not None and len(wanted) <= depth)
                    counts[depth, tree is None] = counts.get((depth, tree is None), 0) + 1
                    if tree is not None:
                        self.is_same(is_no_tree(house, sizes, limit, depth, tree), True)
                        self.is_same(right_tree(house, sizes, limit, depth, tree), True)
                        self.spoil(chance, house, sizes, limit, depth, tree)
        self.assertGreater(min(counts.values()), 30, counts)

    def spoil(self, chance, house, sizes, limit, depth, tree):
        # With fewer branches less is shown, with more limits it is shown for more.
        for less in range(3):
            self.is_same(is_no_tree(house, sizes, limit, less, tree), right_tree(house, sizes, limit, less, tree))
        for other in {limit + 1, limit + 5, max(0, limit - 1)}:
            self.is_same(is_no_tree(house, sizes, other, depth, tree), right_tree(house, sizes, other, depth, tree))
        value, branches = tree
        wrong = [(value,), (value, branches, ()), [value, branches], (value, list(branches)), (value, branches[1:]), (value, branches[::-1]), (value, branches + branches[:1]), (value, None), (branches, value)]
        if branches:
            (mend, below), *rest = branches
            wrong += [(value, ((mend, None), *rest)), (value, ((mend,), *rest)), (value, ([mend, below], *rest)), (value, ((list(mend), below), *rest)), (value, ((mend[::-1], below), *rest)),
                      (value, ((mend, tree), *rest)), (value, ((mend, (below[0], ())), *rest))]
        for other in chance.sample(wrong, min(6, len(wrong))):
            self.is_same(is_no_tree(house, sizes, limit, depth, other), right_tree(house, sizes, limit, depth, other), other)


class NoTrees(Case):
    def test_depths(self):
        house, sizes = small(), {"a": 1, "b": 1, "c": 1}
        for limit, depths in ((9, ()), (8, (0,)), (5, (0,)), (4, (0, 1)), (1, (0, 1)), (0, (0, 1, 2))):
            for depth in range(3):
                tree = no_tree(house, sizes, limit, depth)
                self.assertEqual(tree is not None, depth in depths)
                if tree is not None:
                    self.gives(True, is_no_tree, house, sizes, limit, depth, tree)
                    self.gives(tree, no_tree, house=house, sizes=sizes, limit=limit, depth=depth)
                    self.gives(True, is_no_tree, house=house, sizes=sizes, limit=limit, depth=depth, value=tree)
                    if depth == 0:
                        self.is_same(tree[1], ())
        tree = no_tree(house, sizes, 0, 2)
        self.is_same(tuple(mend for mend, _ in tree[1]), own_mends(house, tree[0]))

    def test_chains_without_own_mends(self):
        house = house_of({"u": ("hu", 1, ())}, main=(("take", 5, "a"), shut("u"), ("take", 5, "a")), hu=(A,))
        for depth in range(3):
            tree = no_tree(house, {"a": 1}, 9, depth)
            self.is_same(tree[1], ())
            self.gives(True, is_no_tree, house, {"a": 1}, 9, depth, tree)
        self.gives(None, no_tree, house, {"a": 1}, 10, 0)

    def test_rings(self):
        deep = (A, call("deep"))
        task = house_of({"u": ("hu", 1, ())}, main=deep, deep=deep, hu=())
        handler = house_of({"u": ("hu", 1, ()), "v": ("deep", 1, ())}, main=(), deep=deep, hu=(("take", 5, "a"),))
        for depth in range(3):
            tree = no_tree(task, {"a": 1}, BIG, depth)
            self.is_same((tree[0][0], tree[1]), (None, ()))
            self.gives(True, is_no_tree, task, {"a": 1}, BIG, depth, tree)
        ring = house_ring(handler)
        self.gives(True, is_no_tree, handler, {"a": 1}, BIG, 0, (ring, ()))
        self.gives(False, is_no_tree, handler, {"a": 1}, BIG, 1, (ring, ()))
        self.gives(None, no_tree, handler, {"a": 1}, BIG, 1)
        tree = no_tree(handler, {"a": 1}, 4, 1)
        self.is_same((tree[0][0], [mend for mend, _ in tree[1]]), ("v", [(None, "v")]))
        self.gives(True, is_no_tree, handler, {"a": 1}, 4, 1, tree)
        self.gives(False, is_no_tree, handler, {"a": 1}, 5, 1, tree)
        self.gives(False, is_no_tree, handler, {"a": 1}, 4, 0, tree)
        self.gives(False, is_no_tree, handler, {"a": 1}, 4, 2, tree)
        self.gives(False, is_no_tree, handler, {"a": 1}, 4, 1, (tree[0], (((None, "u"), tree[1][0][1]),)))
        chain = keeps(mended(handler, [(None, "v")]), {"a": 1}, 4)[1]
        # A chain of the endless house may be told in the place of its ring.
        self.gives(True, is_no_tree, handler, {"a": 1}, 4, 0, (chain, ()))

    def test_one_thing_spoilt(self):
        house, sizes = small(), {"a": 1, "b": 1, "c": 1}
        tree = no_tree(house, sizes, 0, 2)
        for path in parts(tree):
            found = at(tree, path)
            for new in (None, (), list(found) if isinstance(found, tuple) else [found], found[:-1] if isinstance(found, tuple) else 7, (*found, found) if isinstance(found, tuple) else True):
                wrong = put(tree, path, new)
                if repr(wrong) != repr(tree) and len(path) < 6:
                    self.is_same(is_no_tree(house, sizes, 0, 2, wrong), right_tree(house, sizes, 0, 2, wrong), wrong)
        for value in (*ODD_VALUES, *odd_values()):
            for wrong in (value, (value, ()), (tree[0], value), (value, value)):
                self.assertIs(is_no_tree(house, sizes, 0, 2, wrong), False)
        for wrong in oddly_spoilt(no_tree(house, sizes, 3, 1)):
            self.assertIs(is_no_tree(house, sizes, 3, 1, wrong), False)

    def test_errors(self):
        house = small()
        many = house_of({"u": ("nx", 1, ())}, main=(A, B, ("take", 1, "c")), nx=NINE, **PLAIN)
        for one in (house, many):
            for action, last in ((lambda *args: least_mends(one, *args), ()), (lambda *args: no_tree(one, *args), (None,)), (lambda *args: is_no_tree(one, *args, None), (None,))):
                for value in (*ODD_VALUES, *odd_values()):
                    if not isinstance(value, dict):
                        self.raises(InvalidSizes, "name", None, action, value, None, *last)
                    if not (type(value) is int and value > 0):
                        self.raises(InvalidSizes, "name", "b", action, {"a": 1, "b": value}, None, *last)
                    if not (type(value) is int and value >= 0):
                        self.raises(InvalidCount, "value", value, action, {"a": 1, "b": 1, "c": 1}, value, *last)
                    if last and not (type(value) is int and 0 <= value <= 2):
                        self.raises(InvalidCount, "value", value, action, {"a": 1, "b": 1, "c": 1}, 5, value)
                if last:
                    self.raises(InvalidCount, "value", 3, action, {"a": 1, "b": 1, "c": 1}, 5, 3)

    def raises(self, error, field, value, action, *args):
        with self.assertRaises(error) as caught:
            action(*args)
        self.assertIs(getattr(caught.exception, field), value)

    def test_too_many(self):
        one = house_of({"u": ("nx", 1, ()), "v": ("nw", 1, ())}, main=(), nw=NINE, nx=(*NINE, A), **PLAIN)
        two = house_of({"u": ("nx", 1, ())}, main=(*NINE, A), nx=NINE, **PLAIN)
        three = house_of({"u": ("nx", 1, ())}, shut=("u",), main=(), nx=(*NINE, A), **PLAIN)
        for house, name in ((one, "nx"), (two, "main"), (three, "nx")):
            self.fails(TooMany, {"name": name}, least_mends, house, {"a": 1}, 5)
            for depth in range(3):
                self.fails(TooMany, {"name": name}, no_tree, house, {"a": 1}, 5, depth)
            start = (((house.task, ()), ((), "now")),), ()
            self.gives(False, is_no_tree, house, {"a": 1}, 5, 0, (((None, 1, start),), ()))
            self.gives((), own_mends, house, ((None, 1, start),))
        deep = (((("main", ()), ((None,) * 10, "now")),), tuple(((letter, ()), ((), "end")) for letter in PLAIN))
        self.gives(True, is_no_tree, two, {"a": 6}, 5, 0, (((None, 1, deep),), ()))
        self.gives(False, is_no_tree, two, {"a": 6}, 6, 0, (((None, 1, deep),), ()))


if __name__ == "__main__":
    unittest.main()
