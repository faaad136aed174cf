"""Judges of chains and rings; they look at each way once and search for nothing."""

from nestdeep.callbacks import is_instance
from nestdeep.frames import summed
from nestdeep.functions import united
from nestdeep.values import is_tuple_of
from nestdeep.walks import walk


class ChainJudge:
    """Judges the parts of chains and rings for a function of a program."""

    def __init__(self, bodies, name):
        self.bodies = bodies
        self.own = bodies.own_instance(name)
        # A dict from the instances in returns to what has returned when they come back.
        self._back = {}

    def _is_instance(self, value):
        """Whether this is an instance that can be called when the function is asked about."""
        if not is_instance(value) or value[0] not in self.bodies.heads:
            return False
        name, args = value
        if len(args) != len(self.bodies.heads[name]):
            return False
        return all([self.bodies.is_argument(self.own[1], arg) for arg in args])

    def _is_link(self, value):
        return is_tuple_of(value, 2) and self._is_instance(value[0])

    def followed(self, instance, way):
        """The walk of a way through the body of an instance, with the targets of what it calls; or None."""
        found = walk(self.bodies.blocks[instance[0]], way)
        if found is None:
            return None
        line, shut, tag, passed, following = found
        told = tag if tag in ("now", "end") else self.bodies.target(instance, tag)
        return line, shut, told, [self.bodies.target(instance, callback) for callback in passed], following

    def returned_by(self, passed):
        """The sorted tuple of the parameters that have returned when these have; None if one never did."""
        names = []
        for target in passed:
            if isinstance(target, str):
                names.append(target)
            elif target in self._back:
                names.extend(self._back[target])
            else:
                return None
        return tuple(sorted(set(names)))

    def takes_returns(self, returns):
        """Whether these are the returns of a chain; if so, they count from now on."""
        if not isinstance(returns, tuple):
            return False
        for pair in returns:
            if not self._is_link(pair) or pair[0] in self._back:
                return False
            found = self.followed(pair[0], pair[1])
            if found is None or found[2] != "end":
                return False
            names = self.returned_by(found[3])
            if names is None:
                return False
            self._back[pair[0]] = names
        return True

    def run(self, first, links):
        """What is reached on links from the first instance on; None if they are none.

        That is a tuple (line, shut, tag, returned): the tag is that of the last way, all others end at
        a call of the next link's instance. Without links it is the first instance.
        """
        line, shut, tag, names = (), (), first, ()
        for pair in links:
            if not self._is_link(pair) or pair[0] != tag:
                return None
            found = self.followed(pair[0], pair[1])
            back = None if found is None else self.returned_by(found[3])
            if back is None:
                return None
            line, shut, names = summed([line, found[0]]), united(shut, found[1]), united(names, back)
            tag = found[2]
        return line, shut, tag, names

    def chain_term(self, paper):
        """The term that a chain reaches, None if this is no chain."""
        if not is_tuple_of(paper, 2) or not isinstance(paper[0], tuple):
            return None
        links, returns = paper
        found = self.run(self.own, links) if self.takes_returns(returns) else None
        if found is None or not isinstance(found[2], str):
            return None
        line, shut, tag, names = found
        if tag == "end":
            return ((), (), "end", names) if len(links) == 1 else None
        return line, shut, tag, names

    def _loop_returned(self, first, ring):
        """What has returned around a ring that is a loop, None if it is none from the first instance on.

        first may also be "now", "end" or a parameter, where no ring begins.
        """
        _, instance, way, around = ring
        # What is no instance must not be compared with one.
        if not self._is_instance(instance) or instance != first:
            return None
        found = self.followed(instance, way)
        if found is None or found[2] != "now" or found[4] is None or found[4][:2] != ("loop", None):
            return None
        turn = walk(found[4][2], around)
        if turn is None or turn[2] != "end" or turn[0] == ():
            return None
        return self.returned_by([*found[3], *[self.bodies.target(instance, callback) for callback in turn[3]]])

    def _calls_returned(self, first, ring):
        """What has returned around a ring of calls, None if it is none from the first instance on."""
        found = self.run(first, ring)
        return None if found is None or found[2] != first or found[0] == () else found[3]

    def ring_returned(self, paper):
        """What has returned for a ring, None if this is no ring."""
        if not is_tuple_of(paper, 3) or not isinstance(paper[0], tuple):
            return None
        links, ring, returns = paper
        if not isinstance(ring, tuple) or not ring or not self.takes_returns(returns):
            return None
        ahead = self.run(self.own, links)
        if ahead is None:
            return None
        if isinstance(ring[0], str):
            around = self._loop_returned(ahead[2], ring) if ring[0] == "loop" and len(ring) == 4 else None
        else:
            around = self._calls_returned(ahead[2], ring)
        return None if around is None else united(ahead[3], around)
