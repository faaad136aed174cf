"""Groups of instances that call one another, directly or through others."""


class Grouping:
    """Finds the groups of what can be come to, those that are called by a group ahead of it."""

    def __init__(self, calls_of, done):
        # A dict from instances to the lists of what they call; what is done is left out.
        self.calls_of = calls_of
        self.done = done
        self.found_groups = []
        self._numbers = {}
        self._lowest = {}
        self._waiting = []
        self._is_waiting = {}

    def was_visited(self, instance):
        """Whether the group of an instance was found."""
        return instance in self._numbers

    def visit(self, instance):
        """Find the groups of all that can be come to from an instance that was not visited."""
        self._numbers[instance] = len(self._numbers)
        self._lowest[instance] = self._numbers[instance]
        self._waiting.append(instance)
        self._is_waiting[instance] = True
        for called in self.calls_of[instance]:
            if called in self.done:
                continue
            if called not in self._numbers:
                self.visit(called)
                self._lower(instance, self._lowest[called])
            elif self._is_waiting[called]:
                self._lower(instance, self._numbers[called])
        if self._lowest[instance] == self._numbers[instance]:
            self._end_group(instance)

    def _lower(self, instance, number):
        self._lowest[instance] = min(self._lowest[instance], number)

    def _end_group(self, first):
        """All that was visited from the first one on, and is not in a group yet, is one."""
        at = self._waiting.index(first)
        group = self._waiting[at:]
        del self._waiting[at:]
        for instance in group:
            self._is_waiting[instance] = False
        self.found_groups.append(group)
