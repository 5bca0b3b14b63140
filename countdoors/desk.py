"""A keeper's desk: lines of words that open doors, change numbers and ask questions."""

from countdoors.common import LAST_NUMBER, check_both
from countdoors.errors import InvalidLine, NothingToRedo, NothingToUndo, NotText
from countdoors.states import lost_doors, ready, ways_on

STEPS = ("open", "add", "drop")
QUESTIONS = ("ways", "ready", "lost")


class Desk:
    """A nest with numbers and a state, both changed by steps that can be taken back."""

    def __init__(self, nest, numbers):
        check_both(nest, numbers)
        self._nest = nest
        # One row for the beginning and one for each step: its line, and the state and numbers
        # behind it. Rows behind the present one are the steps that were taken back.
        self._rows = [("", (), numbers)]
        self._at = 0

    @property
    def state(self):
        """Return the ascending tuple of the doors that are open."""
        return self._rows[self._at][1]

    @property
    def numbers(self):
        """Return the numbers as they are now."""
        return self._rows[self._at][2]

    @property
    def steps(self):
        """Return the tuple of the lines of the steps that are done."""
        return tuple([row[0] for row in self._rows[1:self._at + 1]])

    def run(self, line):
        """Do the step of a line, or return the answer to its question."""
        if not isinstance(line, str):
            raise NotText("a line is a string")
        words = [word for word in line.split(" ") if word != ""]
        check_word(words, 0, STEPS + QUESTIONS)
        if words[0] in QUESTIONS:
            check_end(words, 1)
            return self._answer(words[0])
        state, numbers = self._stepped(words)
        self._rows = self._rows[:self._at + 1] + [(line, state, numbers)]
        self._at = self._at + 1
        return None

    def undo(self):
        """Take the last step back."""
        if self._at == 0:
            raise NothingToUndo("no step is done")
        self._at = self._at - 1

    def redo(self):
        """Do the step again that was taken back last."""
        if self._at == len(self._rows) - 1:
            raise NothingToRedo("no step was taken back")
        self._at = self._at + 1

    def _stepped(self, words):
        """Return the pair of the state and the numbers behind a step."""
        state, numbers = self.state, self.numbers
        if words[0] == "open":
            door = read_digit(words, 1, ready(self._nest, numbers, state))
            check_end(words, 2)
            return tuple(sorted(state + (door,))), numbers
        door = read_digit(words, 1, list(range(len(self._nest))))
        some = numbers[door]
        if words[0] == "add":
            others = [other for other in range(LAST_NUMBER + 1) if other not in some]
            number = read_digit(words, 2, others)
            some = tuple(sorted(some + (number,)))
        else:
            number = read_digit(words, 2, some)
            some = tuple([other for other in some if other != number])
        check_end(words, 3)
        return state, numbers[:door] + (some,) + numbers[door + 1:]

    def _answer(self, word):
        """Return the answer to a question as a string."""
        if word == "ways":
            return str(ways_on(self._nest, self.numbers, self.state))
        if word == "ready":
            doors = ready(self._nest, self.numbers, self.state)
            return " ".join([str(door) for door in doors]) if doors else "none"
        doors = lost_doors(self._nest, self.numbers, self.state)
        return str(doors[0]) if doors else "no"


def check_word(words, at, allowed):
    """Raise InvalidLine unless there is a word at an index and it is one of those allowed."""
    if at >= len(words) or words[at] not in allowed:
        raise InvalidLine(at + 1)


def check_end(words, many):
    """Raise InvalidLine if there are more words than so many."""
    if len(words) > many:
        raise InvalidLine(many + 1)


def read_digit(words, at, allowed):
    """Return the number that the word at an index is, one of those allowed."""
    check_word(words, at, [str(number) for number in allowed])
    return int(words[at])
