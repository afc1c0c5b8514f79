"""Rows of answers that steer a run, and a queue in which the least row comes first.

A row is a pair: the number of its answers, and a string with a digit for each of them, "1" for True, "0"
for False and for an integer. So a shorter row is less than a longer one, and rows of one length are
ordered by their first unlike answers.
"""

EMPTY = (0, "")
NUMBER = (1, "0")
FALSE = (1, "0")
TRUE = (1, "1")


def joined(row, other):
    """Return the answers of a row, and behind them those of another one."""
    return row[0] + other[0], row[1] + other[1]


def digits_of(row):
    """Return the digits of the answers of a row."""
    return row[1]


class Queue:
    """Things that wait, each with a row; one with the least row is taken first."""

    def __init__(self):
        # The rows that wait, the least one last, and for each of them its things.
        self._rows = []
        self._things = {}

    def __len__(self):
        return len(self._rows)

    def put(self, row, thing):
        """Let a thing wait with a row."""
        if row not in self._things:
            self._things[row] = []
            self._rows.insert(self._rank(row), row)
        self._things[row].append(thing)

    def take(self):
        """Take a pair (row, thing) with the least row out of the queue."""
        row = self._rows[-1]
        thing = self._things[row].pop()
        if len(self._things[row]) == 0:
            del self._things[row]
            self._rows.pop()
        return row, thing

    def _rank(self, row):
        """Return the number of rows that wait and are greater."""
        low = 0
        high = len(self._rows)
        while low < high:
            middle = (low + high) // 2
            if self._rows[middle] > row:
                low = middle + 1
            else:
                high = middle
        return low
