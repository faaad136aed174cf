"""Numbers in place of the names in terms, so that many terms are reckoned with quickly.

A ROW tells a line by its counts of all frames in question. A MASK tells a set: bit k stands for its
k-th possible item. A tag is NOW, END, or CALLS + k for the k-th callback. A TABLE of terms is a
dict from tags to dicts from tuples (mask of shut, mask of returned) to lists of rows. A PACKED
FORM is a tuple (endless, table), endless the list of the masks of the endless sets.
"""

from nestdeep.callbacks import in_callback_order

NOW = 0
END = 1
CALLS = 2


def bits_of(mask):
    """The tuple of the numbers of the bits of a mask, ascending."""
    return tuple([at for at in range(mask.bit_length()) if mask >> at & 1])


class Codes:
    """Which frames, interrupts and callbacks stand for which numbers."""

    def __init__(self, frames, interrupts, callbacks):
        self.frame_names = tuple(sorted(set(frames)))
        self.shut_names = tuple(sorted(set(interrupts)))
        self.called = in_callback_order(callbacks)
        self.nothing = tuple([0 for _ in self.frame_names])
        self.bit_of_interrupt = {name: 1 << at for at, name in enumerate(self.shut_names)}
        self.tag_of = {callback: CALLS + at for at, callback in enumerate(self.called)}

    def row_of(self, line):
        """The counts of a line."""
        counts = dict(line)
        return tuple([counts.get(frame, 0) for frame in self.frame_names])

    def line_of(self, row):
        """The line of a row."""
        return tuple([(frame, count) for frame, count in zip(self.frame_names, row) if count > 0])

    def shut_mask(self, shut):
        """The mask of a set of interrupts."""
        return sum([self.bit_of_interrupt[name] for name in shut])

    def shut_of(self, mask):
        """The sorted tuple of the interrupts of a mask."""
        return tuple([self.shut_names[at] for at in bits_of(mask)])

    def callback_mask(self, callbacks):
        """The mask of a set of callbacks."""
        return sum([1 << (self.tag_of[callback] - CALLS) for callback in callbacks])

    def tag_number(self, tag):
        """The number of a tag."""
        if tag == "now":
            return NOW
        return END if tag == "end" else self.tag_of[tag]

    def packed_term(self, term):
        """A tuple (tag, shut, returned, row) of numbers."""
        line, shut, tag, returned = term
        return self.tag_number(tag), self.shut_mask(shut), self.callback_mask(returned), self.row_of(line)

    def table_of(self, terms):
        """The table of some terms."""
        table = {}
        for term in terms:
            tag, shut, returned, row = self.packed_term(term)
            table.setdefault(tag, {}).setdefault((shut, returned), []).append(row)
        return table

    def packed(self, form):
        """The packed form of a Form."""
        return [self.callback_mask(callbacks) for callbacks in form.endless], self.table_of(form.terms)

    def _terms_with(self, tag, groups):
        """The list of the terms with one tag, in term order."""
        keyed = []
        for (mask, returned), rows in groups.items():
            names, numbers = self.shut_of(mask), bits_of(returned)
            keyed.extend([(self.line_of(row), names, numbers) for row in rows])
        told = ("now", "end", *self.called)[tag]
        return [(line, shut, told, tuple([self.called[at] for at in bits])) for line, shut, bits in sorted(keyed)]

    def terms_of(self, table):
        """The tuple of the terms of a table, in term order."""
        terms = []
        for tag in sorted(table):
            terms.extend(self._terms_with(tag, table[tag]))
        return tuple(terms)

    def sets_of(self, masks):
        """The tuple of the sets of some masks, shorter ones first."""
        keyed = [(len(bits_of(mask)), bits_of(mask)) for mask in masks]
        return tuple([tuple([self.called[at] for at in numbers]) for _, numbers in sorted(keyed)])


def codes_of_terms(terms, callbacks):
    """Codes for all that stands in some terms, and for these callbacks."""
    frames = [frame for term in terms for frame, _ in term[0]]
    return Codes(frames, [name for term in terms for name in term[1]], callbacks)


def codes_of_forms(forms):
    """Codes for all that stands in several Forms."""
    callbacks = [callback for form in forms for callback in form.callbacks]
    return codes_of_terms([term for form in forms for term in form.terms], callbacks)
