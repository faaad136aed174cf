"""Whether a claim holds: it is put into the body forms, and what results must be in it already."""

from nestdeep.codes import codes_of_terms
from nestdeep.hulls import is_covered_row, plus
from nestdeep.packs import has_any_within, helping_rows


class ClaimCheck:
    """A claim, a dict from instances to Forms, packed with the parameters of its function."""

    def __init__(self, claim, body_forms, params):
        every = [*claim.values(), *body_forms.values()]
        terms = [term for form in every for term in form.terms]
        self.codes = codes_of_terms(terms, params)
        self._body_forms = body_forms
        self._claimed = {instance: self.codes.packed(form) for instance, form in claim.items()}
        self._backs = {}
        for instance, form in claim.items():
            ends = {term[3]: True for term in form.terms if term[2] == "end"}
            self._backs[instance] = [self.codes.callback_mask(returned) for returned in ends]

    def _replaced(self, callbacks):
        """The masks of the sets of parameters that result from a set of callbacks."""
        masks = {0: True}
        for callback in callbacks:
            backs = [self.codes.callback_mask([callback])] if isinstance(callback, str) else self._backs[callback]
            masks = {mask | back: True for mask in masks for back in backs}
        return list(masks)

    def _resulting_sets(self, instance):
        """The masks of the endless sets that result for an instance."""
        form = self._body_forms[instance]
        found = [mask for callbacks in form.endless for mask in self._replaced(callbacks)]
        for _, _, tag, returned in form.terms:
            if not isinstance(tag, str):
                endless = self._claimed[tag][0]
                found.extend([mask | more for mask in self._replaced(returned) for more in endless])
        return found

    def wrong_set(self, instance):
        """The first endless set that results and is not claimed for an instance, None if there is none."""
        endless = self._claimed[instance][0]
        wrong = {mask: True for mask in self._resulting_sets(instance) if not has_any_within(endless, mask)}
        return self.codes.sets_of(wrong)[0] if wrong else None

    def _resulting_groups(self, term):
        """The list of tuples (tag, shut, returned, rows) that result from a term of a body form."""
        line, shut, tag, returned = term
        row, names, masks = self.codes.row_of(line), self.codes.shut_mask(shut), self._replaced(returned)
        if isinstance(tag, str):
            number = self.codes.tag_number(tag)
            return [(number, names, mask, [row]) for mask in masks]
        found = []
        for number, groups in self._claimed[tag][1].items():
            if number != self.codes.tag_number("end"):
                for (more, back), rows in groups.items():
                    sums = [plus(row, other) for other in rows]
                    found.extend([(number, names | more, mask | back, sums) for mask in masks])
        return found

    def wrong_term(self, instance):
        """The first term that results and is not claimed for an instance, None if there is none."""
        endless, table = self._claimed[instance]
        wrong = {}
        for term in self._body_forms[instance].terms:
            for number, shut, back, rows in self._resulting_groups(term):
                if not has_any_within(endless, back):
                    helping = helping_rows(table.get(number, {}), shut, back)
                    left = {row: True for row in rows if not is_covered_row(row, helping)}
                    if left:
                        wrong.setdefault(number, {}).setdefault((shut, back), []).extend(left)
        return self.codes.terms_of(wrong)[0] if wrong else None
