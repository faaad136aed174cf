"""The forms of loops."""

from nestdeep.bodies import made_form
from nestdeep.codes import codes_of_forms
from nestdeep.errors import InvalidCount
from nestdeep.functions import MOST_ROUNDS
from nestdeep.packs import looped
from nestdeep.values import is_count


def loop(form, rounds):
    """The form of a loop of at most so many rounds, of any number if this is None."""
    if rounds is not None and (not is_count(rounds, 1) or rounds > MOST_ROUNDS):
        raise InvalidCount(rounds)
    codes = codes_of_forms([form])
    return made_form(codes, looped(codes.packed(form), rounds, codes.nothing))
