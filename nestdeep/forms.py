"""Forms: all that any program around a body can ever notice of its use of the stack."""

from nestdeep.callbacks import is_part, sets_in_order
from nestdeep.codes import codes_of_forms
from nestdeep.covering import is_term_mixed
from nestdeep.errors import InvalidForm
from nestdeep.formchecks import check_form, contains_any, is_term_of
from nestdeep.mixing import corner_lines
from nestdeep.packs import is_table_at_most


class Form:
    """The callbacks, the least endless sets and the least terms of a body."""

    def __init__(self, callbacks=(), endless=(), terms=()):
        check_form(callbacks, endless, terms)
        self._parts = (callbacks, endless, terms)
        self._returns = sets_in_order([term[3] for term in terms if term[2] == "end"])

    @classmethod
    def made(cls, callbacks, endless, terms):
        """The Form of parts that were reckoned, so that they need no check."""
        form = cls((), ((),), ())
        form._parts = (callbacks, endless, terms)
        form._returns = sets_in_order([term[3] for term in terms if term[2] == "end"])
        return form

    @property
    def callbacks(self):
        """The tuple of the callbacks, in callback order."""
        return self._parts[0]

    @property
    def endless(self):
        """The tuple of the least sets of callbacks that make the body endless."""
        return self._parts[1]

    @property
    def terms(self):
        """The tuple of the least terms, in term order."""
        return self._parts[2]

    @property
    def returns(self):
        """The tuple of the least sets of callbacks that must return so that the end is reached."""
        return self._returns

    def lines(self, tag, *, shut=(), returned=()):
        """The corners of the lines with this tag, with shut and returned within these; None if endless."""
        if contains_any(self.endless, returned):
            return None
        found = []
        for line, names, other, back in self.terms:
            if other == tag and is_part(names, shut) and is_part(back, returned):
                found.append(line)
        return corner_lines(found)

    def at_most(self, other):
        """Whether the other form has all that this one has, or more."""
        if not isinstance(other, Form) or other.callbacks != self.callbacks:
            raise InvalidForm("callbacks", other)
        if [one for one in self.endless if not contains_any(other.endless, one)]:
            return False
        codes = codes_of_forms([self, other])
        return is_table_at_most(codes.packed(self)[1], codes.packed(other))

    def _has(self, term):
        """Whether the terms cover a term, or an endless set lies within its returned."""
        return contains_any(self.endless, term[3]) or is_term_mixed(term, self.terms)

    def shows(self, value):
        """Whether this is a term that the form has, or that lies below what it has."""
        return is_term_of(self.callbacks, value) and self._has(value)

    def __len__(self):
        return len(self._parts[2])

    def __eq__(self, other):
        return isinstance(other, Form) and self._parts == other._parts

    def __repr__(self):
        return f"Form({self.callbacks!r}, {self.endless!r}, {self.terms!r})"


def form_of_pack(codes, form):
    """The Form of a packed form."""
    return Form.made(codes.called, codes.sets_of(form[0]), codes.terms_of(form[1]))
