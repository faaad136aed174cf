"""A desk: a bench that answers rows of words."""

from nestdeep.bench import Bench
from nestdeep.deskrows import answer
from nestdeep.errors import InvalidRow
from nestdeep.values import is_list


class Desk:
    """Has a bench, at first an empty one."""

    def __init__(self):
        self._bench = Bench()

    def say(self, row):
        """The answer to a row."""
        return answer(self._bench, row)

    def play(self, rows):
        """The list of the answers to several rows; if one raises an error, nothing is changed."""
        if not is_list(rows):
            raise InvalidRow(rows)
        bench = self._bench.clone()
        answers = [answer(bench, row) for row in rows]
        self._bench = bench
        return answers
