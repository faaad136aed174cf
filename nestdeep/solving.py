"""The forms of instances: what is reached when calls are performed.

The ends of an instance are the masks of the parameters that must come back so that it does. Its
PARTS are a tuple (own, arcs) of what its body form has when the sets of what has returned are
replaced by parameters: own is the table of what no call of an instance is needed for, arcs has for
each instance that is called the groups of the terms at which it is.

An instance is BIG if it has more terms than a form can have: then its table is only made if one is
needed that rests on it, and cannot be seen to be too big without it.
"""

from nestdeep.bigness import Bigness, masks_within
from nestdeep.codes import CALLS, END, NOW, bits_of
from nestdeep.grouping import Grouping, all_from
from nestdeep.packs import both_groups, chosen, has_any_within, how_many, least_masks, put_groups
from nestdeep.plans import MOST_TERMS


def _added(table, tag, groups):
    table[tag] = both_groups(table[tag], groups) if tag in table else groups


def _add_arc(table, groups, called):
    """Add to a table what is reached in an instance with this table, called at these groups."""
    for tag, others in called.items():
        if tag != END:
            _added(table, tag, put_groups(groups, others))


def _has_new(table, known):
    """Whether a table has a term that another one has not."""
    for tag, groups in table.items():
        for key, rows in groups.items():
            others = known.get(tag, {}).get(key, [])
            if [row for row in rows if row not in others]:
                return True
    return False


def is_held(instance, stale):
    """Whether neither the function of an instance nor what is passed to it is among the stale names."""
    return instance[0] not in stale and not [arg for arg in instance[1] if arg in stale]


class Solver:
    """The packed forms of instances, each one reckoned once, with all parameters as callbacks."""

    def __init__(self, bodies):
        self.bodies = bodies
        self.ends = {}
        self.endless_of = {}
        self.tables = {}
        # A dict from the big instances to their parts.
        self.big = {}

    def take_over(self, earlier, stale):
        """Keep what an earlier solver, with the same codes, knows of instances without stale functions."""
        held = {instance: True for instance in earlier.endless_of if is_held(instance, stale)}
        self.ends = {instance: earlier.ends[instance] for instance in held}
        self.endless_of = {instance: earlier.endless_of[instance] for instance in held}
        self.tables = {instance: table for instance, table in earlier.tables.items() if instance in held}
        self.big = {instance: parts for instance, parts in earlier.big.items() if instance in held}

    def packed_form(self, instance):
        """The packed form of an instance that was solved and is not big."""
        return self.endless_of[instance], self.tables[instance]

    def has_too_many(self, instance):
        """Whether an instance that was solved has more terms than a form can have."""
        return instance in self.big or how_many(self.packed_form(instance)) > MOST_TERMS

    def solve(self, instance):
        """Reckon the form of an instance, and of all that it calls, unless this was done before."""
        if instance in self.endless_of:
            return
        grouping = Grouping(self.bodies, self.endless_of)
        grouping.visit(instance)
        for group in grouping.found_groups:
            self._solve_group(group, len(group) > 1 or group[0] in self.bodies.instances_in(group[0]))

    def replaced(self, instance, mask):
        """The masks of parameters that must come back so that these callbacks of an instance do."""
        targets = self.bodies.targets_of(instance)
        masks = [0]
        for at in bits_of(mask):
            target = targets[at]
            if isinstance(target, str):
                backs = [self.bodies.codes.callback_mask([target])]
            else:
                backs = self.ends[target]
            masks = least_masks([one | back for one in masks for back in backs])
        return masks

    def _ends_now(self, instance):
        """The ends of an instance by the ends known so far."""
        ends = self.bodies.pack_for(instance[0])[1].get(END, {})
        return least_masks([mask for _, returned in ends for mask in self.replaced(instance, returned)])

    def _find_ends(self, group):
        for instance in group:
            self.ends[instance] = []
        changed = True
        while changed:
            changed = False
            for instance in group:
                ends = self._ends_now(instance)
                changed = changed or ends != self.ends[instance]
                self.ends[instance] = ends

    def _told(self, instance, groups):
        """The groups with sets of parameters in place of what has returned."""
        told = {}
        for (shut, returned), rows in groups.items():
            for mask in self.replaced(instance, returned):
                told.setdefault((shut, mask), []).extend(rows)
        return told

    def _parts_of(self, instance):
        own, arcs = {}, {}
        targets = self.bodies.targets_of(instance)
        for tag, groups in self.bodies.pack_for(instance[0])[1].items():
            told = {} if tag == END else self._told(instance, groups)
            target = targets[tag - CALLS] if tag >= CALLS else None
            if tag == NOW:
                own[NOW] = told
            elif isinstance(target, str):
                _added(own, self.bodies.codes.tag_of[target], told)
            elif tag != END:
                _added(arcs, target, told)
        own[END] = {(0, mask): [self.bodies.codes.nothing] for mask in self.ends[instance]}
        return own, arcs

    def _endless_alone(self, instance, arcs):
        """The masks that make an instance endless by its own body or by what was solved before."""
        found = []
        for mask in self.bodies.pack_for(instance[0])[0]:
            found.extend(self.replaced(instance, mask))
        for target, groups in arcs.items():
            if target in self.endless_of:
                found.extend([mask | more for _, mask in groups for more in self.endless_of[target]])
        return least_masks(found)

    def _solve_group(self, group, is_ring):
        self._find_ends(group)
        parts = {instance: self._parts_of(instance) for instance in group}
        endless = {instance: self._endless_alone(instance, parts[instance][1]) for instance in group}
        if is_ring:
            endless = self._endless_in_ring(parts, endless)
        for instance in group:
            self.endless_of[instance] = endless[instance]
        if is_ring:
            self._solve_ring(parts)
        else:
            self._solve_alone(group[0], parts[group[0]])

    def _solve_alone(self, instance, parts):
        """Make the table of an instance that does not call itself, or see that it is big."""
        if [target for target in parts[1] if target in self.big]:
            self.big[instance] = parts
            if Bigness(self).is_proved(instance):
                return
            del self.big[instance]
        table = self._table_alone(instance, parts, MOST_TERMS)
        if how_many(([], table)) > MOST_TERMS:
            self.big[instance] = parts
        else:
            self.tables[instance] = table

    def _settle(self, instance):
        """Make the table of a big instance."""
        self.tables[instance] = self._table_alone(instance, self.big[instance], None)
        del self.big[instance]

    def _table_alone(self, instance, parts, most):
        """The table of an instance, by its own body and by what was solved before; most is that of chosen."""
        own, arcs = parts
        table = {tag: groups for tag, groups in own.items()}
        for target, groups in arcs.items():
            if target in self.big:
                self._settle(target)
            if target in self.tables:
                _add_arc(table, groups, self.tables[target])
        return chosen(self.endless_of[instance], table, most)[1]

    def _solve_ring(self, parts):
        first = {instance: self._table_alone(instance, parts[instance], None) for instance in parts}
        tables = {instance: first[instance] for instance in parts}
        self._grow(parts, first, tables)
        for instance in parts:
            self.tables[instance] = tables[instance]

    def _submasks(self, args):
        """All masks of the parameters among the arguments, parts ahead of what they are parts of."""
        params = [arg for arg in args if arg in self.bodies.codes.tag_of]
        most = self.bodies.codes.callback_mask(sorted(set(params)))
        return masks_within(most)

    def _endless_in_ring(self, parts, alone):
        """The masks that make the instances of a group endless, which call one another."""
        found = {instance: [] for instance in parts}
        for mask in self._submasks(list(parts)[0][1]):
            for instance in self._endless_under(parts, alone, mask):
                if not has_any_within(found[instance], mask):
                    found[instance].append(mask)
        return found

    def _endless_under(self, parts, alone, allowed):
        """A dict of the instances of a group that are endless when only what is allowed comes back."""
        callers = {instance: [] for instance in parts}
        taking = []
        for instance, (_, arcs) in parts.items():
            for target, groups in arcs.items():
                live = [rows for (_, mask), rows in groups.items() if mask | allowed == allowed]
                if target in parts and live:
                    callers[target].append(instance)
                    if [row for rows in live for row in rows if row != self.bodies.codes.nothing]:
                        taking.append((instance, target))
        sure = [instance for instance in parts if has_any_within(alone[instance], allowed)]
        # A call that takes something is on a ring if what it calls can come back to it.
        sure.extend([instance for instance, target in taking if target in all_from([instance], callers)])
        return all_from(sure, callers)

    def _grow(self, parts, first, tables):
        """Let the tables of a group grow until they have all that is reached around its rings."""
        changed = True
        while changed:
            changed = False
            for instance, (_, arcs) in parts.items():
                table = {tag: groups for tag, groups in first[instance].items()}
                for target, groups in arcs.items():
                    if target in parts:
                        _add_arc(table, groups, tables[target])
                table = chosen(self.endless_of[instance], table)[1]
                if _has_new(table, tables[instance]):
                    tables[instance] = table
                    changed = True
