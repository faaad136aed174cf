"""The bodies of the instances of a program, and what each of them calls.

The packed forms of all functions are told by the same frames and interrupts. In the form of a
function the callbacks are those of its statements; the TARGETS of an instance tell for each of
them, in callback order, what it is with the arguments in place: a NAME, a parameter of the
function that is asked about, or an instance.
"""

from nestdeep.callbacks import callback_key, callbacks_in, in_callback_order
from nestdeep.codes import Codes
from nestdeep.covering import PLAIN_TAGS
from nestdeep.errors import TooMany
from nestdeep.packs import roomed
from nestdeep.plans import checked_plan


class InstanceBodies:
    """What is known of the functions of a program, each thing reckoned once.

    Further frames and interrupts can be told, too.
    """

    def __init__(self, program, frames=(), interrupts=()):
        self._program = program
        self.heads = {name: params for name, params, _ in program}
        self.blocks = {name: body for name, _, body in program}
        self._calls = {name: callbacks_in(program.statement_rows(name)) for name in self.heads}
        every = [param for params in self.heads.values() for param in params]
        self.codes = Codes([*program.frames(), *frames], [*program.interrupts(), *interrupts], every)
        self._plans = {}
        self._packs = {}
        self._targets = {}

    def with_form(self, name, form):
        """The same, but that a function without statements has a form, by which it calls its parameters."""
        twin = InstanceBodies(self._program, self.codes.frame_names, self.codes.shut_names)
        # The plans of the others stay what they are, so all twins share them.
        twin._plans = self._plans
        twin._calls[name] = in_callback_order([term[2] for term in form.terms if term[2] not in PLAIN_TAGS])
        codes = Codes(self.codes.frame_names, self.codes.shut_names, twin._calls[name])
        twin._packs[name] = codes.packed(form)
        return twin

    def has_codes_of(self, other):
        """Whether frames, interrupts and parameters are told by the same numbers as in other bodies."""
        mine, its = self.codes, other.codes
        return (mine.frame_names, mine.shut_names, mine.called) == (its.frame_names, its.shut_names, its.called)

    def take_plans(self, earlier, changed):
        """Keep what is known in earlier bodies, with the same codes, of the functions that are not changed."""
        self._plans = {name: plan for name, plan in earlier._plans.items() if name not in changed}
        self._packs = {name: pack for name, pack in earlier._packs.items() if name not in changed}

    def own_instance(self, name):
        """A function with its parameters."""
        return name, self.heads[name]

    def plan_for(self, name):
        """The plan of a function's body, None if there are too many callbacks or terms."""
        if name not in self._plans:
            codes = Codes(self.codes.frame_names, self.codes.shut_names, self._calls[name])
            try:
                self._plans[name] = checked_plan(codes, self.blocks[name])
            except TooMany:
                self._plans[name] = None
        return self._plans[name]

    def has_too_many(self, name):
        """Whether a function has too many callbacks or terms."""
        return name not in self._packs and self.plan_for(name) is None

    def pack_for(self, name):
        """The packed body form of a function that has a plan."""
        if name not in self._packs:
            self._packs[name] = roomed(self.plan_for(name).result, self.codes.nothing)
        return self._packs[name]

    def _target(self, callback, passed):
        if isinstance(callback, str):
            arg = passed[callback]
            return (arg, ()) if arg in self.heads else arg
        return callback[0], tuple([passed.get(arg, arg) for arg in callback[1]])

    def target(self, instance, callback):
        """What a callback of an instance's body is with the arguments in place of the parameters."""
        name, args = instance
        return self._target(callback, {param: arg for param, arg in zip(self.heads[name], args)})

    def targets_of(self, instance):
        """The list of the targets of an instance."""
        if instance not in self._targets:
            name, args = instance
            passed = {param: arg for param, arg in zip(self.heads[name], args)}
            self._targets[instance] = [self._target(callback, passed) for callback in self._calls[name]]
        return self._targets[instance]

    def instances_in(self, instance):
        """The instances that are called in an instance."""
        return [target for target in self.targets_of(instance) if not isinstance(target, str)]

    def needed_by(self, name):
        """The list of the instances that a function needs, in callback order."""
        first = self.own_instance(name)
        found = {first: True}
        waiting = [first]
        while waiting:
            caller = waiting.pop()
            for instance in self.instances_in(caller):
                if instance not in found:
                    found[instance] = True
                    waiting.append(instance)
        return sorted(found, key=callback_key)

    def is_argument(self, params, arg):
        """Whether this can be passed by a function with these parameters."""
        return arg in params or self.heads.get(arg) == ()
