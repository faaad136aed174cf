"""The forms of the functions and the instances of a program, each reckoned once for it."""

from nestdeep.callbacks import in_callback_order
from nestdeep.codes import CALLS, Codes, bits_of
from nestdeep.errors import TooMany, UnknownFunction
from nestdeep.forms import Form, form_of_pack
from nestdeep.instancebodies import InstanceBodies
from nestdeep.packs import chosen
from nestdeep.solving import Solver, is_held

MOST_INSTANCES = 60


class Reckoner:
    """What was reckoned for the functions of a program so far."""

    def __init__(self, bodies):
        self.bodies = bodies
        self.solver = Solver(self.bodies)
        self._outcomes = {}
        self._instance_forms = {}
        self._body_forms = {}
        # The chains and rings that were found, by functions and terms or endless sets.
        self.papers = {}

    def take_over(self, earlier, changed, stale):
        """Keep what an earlier reckoner found, of another program.

        Changed are the names of the functions that are others, or are in one program only; stale are
        these and all that use them.
        """
        if not self.bodies.has_codes_of(earlier.bodies):
            return
        self.bodies.take_plans(earlier.bodies, changed)
        self.solver.take_over(earlier.solver, stale)
        self._outcomes = {name: told for name, told in earlier._outcomes.items() if name not in stale}
        forms = earlier._instance_forms
        self._instance_forms = {key: forms[key] for key in forms if is_held(key[0], stale)}

    def _outcome(self, name):
        """The list of what a function needs, and the function of which there is too much, or None."""
        needed = self.bodies.needed_by(name)
        for function in sorted(set([instance[0] for instance in needed])):
            if self.bodies.has_too_many(function):
                return needed, function
        if len(needed) > MOST_INSTANCES:
            return needed, name
        for instance in needed:
            self.solver.solve(instance)
            if self.solver.has_too_many(instance):
                return needed, instance[0]
        return needed, None

    def needed_by(self, name):
        """The list of the instances that a function needs; nobody changes it. Raises TooMany as form_of."""
        if name not in self._outcomes:
            self._outcomes[name] = self._outcome(name)
        needed, many = self._outcomes[name]
        if many is not None:
            raise TooMany(many)
        return needed

    def own_form(self, name):
        """The Form of a function. Raises TooMany as form_of."""
        self.needed_by(name)
        return self.form_for(name, self.bodies.own_instance(name))

    def form_for(self, name, instance):
        """The Form of an instance that a function needs, with the function's parameters as callbacks."""
        callbacks = tuple(sorted(self.bodies.heads[name]))
        key = (instance, callbacks)
        if key not in self._instance_forms:
            endless, table = self.solver.packed_form(instance)
            codes = self.bodies.codes
            self._instance_forms[key] = Form.made(callbacks, codes.sets_of(endless), codes.terms_of(table))
        return self._instance_forms[key]

    def body_form_for(self, instance):
        """The body Form of an instance."""
        if instance not in self._body_forms:
            self._body_forms[instance] = self._body_form(instance)
        return self._body_forms[instance]

    def _body_form(self, instance):
        targets = self.bodies.targets_of(instance)
        codes = Codes(self.bodies.codes.frame_names, self.bodies.codes.shut_names, in_callback_order(targets))
        endless, table = self.bodies.pack_for(instance[0])
        told = {}
        for tag, groups in table.items():
            other = tag if tag < CALLS else codes.tag_of[targets[tag - CALLS]]
            for (shut, returned), rows in groups.items():
                back = codes.callback_mask(_told(targets, returned))
                told.setdefault(other, {}).setdefault((shut, back), []).extend(rows)
        masks = [codes.callback_mask(_told(targets, mask)) for mask in endless]
        return form_of_pack(codes, chosen(masks, told))


def _told(targets, mask):
    """The different targets of the callbacks of a mask."""
    return in_callback_order([targets[at] for at in bits_of(mask)])


def reckoner_of(program, function):
    """The reckoner of a program that has this function."""
    if function not in program:
        raise UnknownFunction(function)
    if program.kept is None:
        program.kept = Reckoner(InstanceBodies(program))
    return program.kept
