"""Groups of instances that call one another, directly or through others."""


def all_from(first, next_of):
    """A dict of all that can be come to from the first ones, these included."""
    found = {one: True for one in first}
    waiting = list(first)
    while waiting:
        last = waiting.pop()
        for one in next_of[last]:
            if one not in found:
                found[one] = True
                waiting.append(one)
    return found


class Grouping:
    """Finds the groups of what can be come to, those that are called by a group ahead of it."""

    def __init__(self, bodies, done):
        # Tells what an instance calls; what is done, the keys of a dict, is left out.
        self.bodies = bodies
        self.done = done
        self.found_groups = []
        self._numbers = {}
        self._lowest = {}
        self._waiting = []
        self._is_waiting = {}

    def visit(self, instance):
        """Find the groups of all that can be come to from an instance that was not visited."""
        self._numbers[instance] = len(self._numbers)
        self._lowest[instance] = self._numbers[instance]
        self._waiting.append(instance)
        self._is_waiting[instance] = True
        for called in self.bodies.instances_in(instance):
            if called in self.done:
                continue
            if called not in self._numbers:
                self.visit(called)
                self._lower(instance, self._lowest[called])
            elif self._is_waiting[called]:
                self._lower(instance, self._numbers[called])
        if self._lowest[instance] == self._numbers[instance]:
            self._end_group(instance)

    def _lower(self, instance, number):
        self._lowest[instance] = min(self._lowest[instance], number)

    def _end_group(self, first):
        """All that was visited from the first one on, and is not in a group yet, is one."""
        at = self._waiting.index(first)
        group = self._waiting[at:]
        del self._waiting[at:]
        for instance in group:
            self._is_waiting[instance] = False
        self.found_groups.append(group)
