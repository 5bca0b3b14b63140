"""A keeper's desk (point 26)."""

import inspect
import unittest
from random import Random

from countdoors.desk import Desk
from countdoors.errors import BadNest, BadNumbers, InvalidLine, NothingToRedo, NothingToUndo, NotText

from tests import brute, wrong

NEST = (2, 2, None)
SOME = ((0,), (0,), (1,))
CHAIN_9 = (1, 2, 3, 4, 5, 6, 7, 8, None)


def told(desk):
    return desk.state, desk.numbers, desk.steps


def word_list(line):
    """The words of a line, read sign by sign."""
    words = [""]
    for sign in line:
        if sign == " ":
            words.append("")
        else:
            words[-1] += sign
    return [word for word in words if word]


def single_digit(word):
    return int(word) if len(word) == 1 and word in "0123456789" else None


class Model:
    """A desk that is done slowly: a step is judged word by word, and the state found by doing all steps again."""

    def __init__(self, nest, numbers):
        self.nest, self.first = nest, numbers
        self.done, self.back = [], []

    def now(self):
        state, numbers = (), self.first
        for line in self.done:
            kind, door, *more = [word if at == 0 else int(word) for at, word in enumerate(word_list(line))]
            if kind == "open":
                state = brute.further(state, door)
            else:
                changed = set(numbers[door]) ^ set(more)
                numbers = tuple(tuple(sorted(changed)) if at == door else some for at, some in enumerate(numbers))
        return state, numbers

    def wrong_word(self, line):
        """The number of the first word that cannot stand or is missing, None if there is none."""
        words = word_list(line)
        state, numbers = self.now()
        needed = {"open": 2, "add": 3, "drop": 3, "ways": 1, "ready": 1, "lost": 1}
        if not words or words[0] not in needed:
            return 1
        for at in range(1, needed[words[0]]):
            digit = single_digit(words[at]) if at < len(words) else None
            if digit is None:
                return at + 1
            if at == 1:
                doors = brute.ready(self.nest, numbers, state) if words[0] == "open" else range(len(self.nest))
                door = digit
                if door not in doors:
                    return 2
            elif digit > 8 or (digit in numbers[door]) == (words[0] == "add"):
                return 3
        return needed[words[0]] + 1 if len(words) > needed[words[0]] else None

    def answer(self, word):
        state, numbers = self.now()
        if word == "ways":
            return str(len(brute.ways_from(self.nest, numbers, state)))
        if word == "ready":
            return " ".join(map(str, brute.ready(self.nest, numbers, state))) or "none"
        opened = set()
        self.open_all(numbers, state, opened, set())
        closed = [door for door in range(len(self.nest)) if door not in state and door not in opened]
        return str(min(closed)) if closed else "no"

    def open_all(self, numbers, state, opened, seen):
        """Collect the doors that can be opened at some time, by opening in all ways."""
        if state not in seen:
            seen.add(state)
            for door in brute.ready(self.nest, numbers, state):
                opened.add(door)
                self.open_all(numbers, brute.further(state, door), opened, seen)


def some_line(source, many):
    """A line by chance: most often a right one but for its numbers, with blanks here and there."""
    words = [source.choice(["open", "open", "open", "add", "drop", "ways", "ready", "lost", source.choice(["", "Open", "op", "undo"])])]
    length = {"open": 1, "add": 2, "drop": 2}.get(words[0], 0) + source.choice([0] * 12 + [1, -1])
    for _ in range(length):
        words.append(str(source.randrange(many)) if source.random() < 0.95 else source.choice(["9", "8", "00", "x", "-1", "1.0", "\t1"]))
    blanks = [" " * source.choice([1, 1, 1, 1, 2, 3]) for _ in words]
    line = "".join(word + blank for word, blank in zip(words, blanks))
    return source.choice(["", "", "  "]) + (line if source.random() < 0.3 else line.rstrip(" "))


class Steps(unittest.TestCase):
    def test_against_a_slow_desk(self):
        kinds = set()
        for nest, numbers in brute.houses(4, 1):
            desk, model = Desk(nest, numbers), Model(nest, numbers)
            source = Random(f"desk {nest} {numbers}")
            for _ in range(25):
                kinds.add(self.do(desk, model, source))
                with self.subTest(nest=nest, numbers=numbers, done=model.done):
                    self.assertEqual(told(desk), (*model.now(), tuple(model.done)))
        self.assertEqual(kinds, {"undo", "redo", "no undo", "no redo", "wrong", "answer", "step"})

    def do(self, desk, model, source):
        chance = source.random()
        if chance < 0.15:
            return self.back(desk, model)
        if chance < 0.3:
            return self.again(desk, model)
        line = some_line(source, len(desk.numbers))
        word = model.wrong_word(line)
        if word is not None:
            with self.assertRaises(InvalidLine, msg=line) as caught:
                desk.run(line)
            self.assertEqual(caught.exception.word, word, line)
            return "wrong"
        first = word_list(line)[0]
        if first in ("ways", "ready", "lost"):
            self.assertEqual(desk.run(line), model.answer(first))
            return "answer"
        self.assertIsNone(desk.run(line))
        model.done.append(line)
        model.back = []
        return "step"

    def back(self, desk, model):
        if not model.done:
            self.assertRaises(NothingToUndo, desk.undo)
            return "no undo"
        self.assertIsNone(desk.undo())
        model.back.append(model.done.pop())
        return "undo"

    def again(self, desk, model):
        if not model.back:
            self.assertRaises(NothingToRedo, desk.redo)
            return "no redo"
        self.assertIsNone(desk.redo())
        model.done.append(model.back.pop())
        return "redo"

    def test_blanks(self):
        desk = Desk(NEST, SOME)
        for line in ["  open 0", "open   2  ", " add  2   7 ", "drop 2 1"]:
            self.assertIsNone(desk.run(line))
        self.assertEqual(desk.run("  ready "), "1")
        self.assertEqual(told(desk), ((0, 2), ((0,), (0,), (7,)), ("  open 0", "open   2  ", " add  2   7 ", "drop 2 1")))

    def test_undo_and_redo_at_both_ends(self):
        desk = Desk(NEST, SOME)
        self.assertRaises(NothingToUndo, desk.undo)
        self.assertRaises(NothingToRedo, desk.redo)
        lines = ("open 1", "add 0 3", "drop 2 1", "open 0")
        states = [told(desk)]
        for line in lines:
            desk.run(line)
            states.append(told(desk))
            self.assertRaises(NothingToRedo, desk.redo)
        for before in reversed(states[:-1]):
            self.assertIsNone(desk.undo())
            self.assertEqual(told(desk), before)
        self.assertRaises(NothingToUndo, desk.undo)
        self.assertEqual(told(desk), states[0])
        for behind in states[1:]:
            self.assertIsNone(desk.redo())
            self.assertEqual(told(desk), behind)
        self.assertRaises(NothingToRedo, desk.redo)
        self.assertEqual(told(desk), states[-1])

    def test_a_new_step_ends_what_can_be_done_again(self):
        desk = Desk(NEST, SOME)
        desk.run("open 0")
        desk.run("open 1")
        desk.undo()
        desk.undo()
        # Questions and wrong lines leave it as it is.
        desk.run("ways")
        self.assertRaises(InvalidLine, desk.run, "open 2")
        desk.redo()
        desk.run("open 2")
        self.assertRaises(NothingToRedo, desk.redo)
        self.assertEqual(told(desk), ((0, 2), SOME, ("open 0", "open 2")))
        desk.undo()
        self.assertEqual(desk.steps, ("open 0",))

    def test_questions(self):
        desk = Desk(NEST, SOME)
        self.assertEqual([desk.run("ways"), desk.run("ready"), desk.run("lost")], ["2", "0 1", "no"])
        desk.run("open 0")
        desk.run("open 1")
        self.assertEqual([desk.run("ways"), desk.run("ready"), desk.run("lost")], ["0", "none", "2"])
        desk.run("add 2 2")
        desk.run("open 2")
        self.assertEqual([desk.run("ways"), desk.run("ready"), desk.run("lost")], ["1", "none", "no"])
        desk = Desk((3, 3, 3, None), ((0,), (), (1,), (4,)))
        self.assertEqual(desk.run("lost"), "1")
        self.assertEqual(desk.steps, ())

    def test_two_desks(self):
        one, other = Desk(NEST, SOME), Desk(NEST, SOME)
        one.run("open 0")
        self.assertEqual([told(other), one.state], [((), SOME, ()), (0,)])

    def test_nine_doors(self):
        desk = Desk(CHAIN_9, ((0,),) + tuple((number,) for number in range(1, 9)))
        self.assertEqual(desk.run("ways"), "1")
        for door in range(9):
            self.assertEqual(desk.run("ready"), str(door))
            desk.run(f"open {door}")
        self.assertEqual([desk.state, desk.run("ready"), desk.run("lost")], [tuple(range(9)), "none", "no"])
        self.assertIsNone(desk.run("add 8 0"))
        self.assertIsNone(desk.run("drop 8 8"))
        self.assertEqual(desk.numbers[8], (0,))


class WrongLines(unittest.TestCase):
    def test_words(self):
        rows = [
            ("", 1), ("   ", 1), ("close 0", 1), ("OPEN 0", 1), ("open0", 1), ("open\t0", 1), ("0", 1), ("undo", 1), ("state", 1),
            ("open", 2), ("open ", 2), ("open x", 2), ("open 2", 2), ("open 3", 2), ("open 00", 2), ("open -0", 2), ("open +0", 2),
            ("open 0 1", 3), ("open 0 x y", 3), ("open 2 x", 2), ("open 0,", 2), ("open 9", 2), ("open 10", 2),
            ("add", 2), ("add 3 0", 2), ("add x", 2), ("add 0", 3), ("add 0 0", 3), ("add 0 9", 3), ("add 0 10", 3), ("add 0 x", 3),
            ("add 0 1 2", 4), ("add 0 0 2", 3), ("add 3 0 2", 2), ("add 0 01", 3), ("add 00 1", 2), ("add 0 -1", 3),
            ("drop", 2), ("drop 3 0", 2), ("drop 2", 3), ("drop 2 0", 3), ("drop 2 9", 3), ("drop 2 1 1", 4), ("drop 2 1x", 3),
            ("ways 0", 2), ("ways ways", 2), ("ready  now", 2), ("lost 2 2", 2), (" lost  x", 2), ("way", 1), ("none", 1),
            ("open \n", 2), ("ways\n", 1), ("open \u0661", 2), ("open 0\u00a0", 2), ("open \u00b2", 2),
        ]
        desk = Desk(NEST, SOME)
        for start in [[], ["add 0 8", "drop 0 8"]]:
            for line in start:
                desk.run(line)
            before = told(desk)
            for line, word in rows:
                with self.subTest(line=line):
                    with self.assertRaises(InvalidLine) as caught:
                        desk.run(line)
                    self.assertEqual(vars(caught.exception), {"word": word})
                    self.assertEqual(told(desk), before)

    def test_a_wrong_line_changes_nothing(self):
        desk = Desk(NEST, SOME)
        desk.run("open 0")
        desk.run("open 1")
        desk.undo()
        before = told(desk)
        for line in ["open 0", "open 1 x", "add 2 1", "drop 2 1 0", "ways x", ""]:
            self.assertRaises(InvalidLine, desk.run, line)
            self.assertEqual(told(desk), before)
        for value, _, _ in wrong.TEXTS:
            self.assertRaises(NotText, desk.run, value)
            self.assertEqual(told(desk), before)
        # What was taken back can still be done again.
        desk.redo()
        self.assertEqual(desk.steps, ("open 0", "open 1"))

    def test_wrong_arguments(self):
        for value, _, fields in wrong.NESTS:
            with self.assertRaises(BadNest) as caught:
                Desk(value, None)
            self.assertEqual(vars(caught.exception), fields)
        for value, _, fields in wrong.NUMBERS:
            with self.assertRaises(BadNumbers) as caught:
                Desk(NEST, value)
            self.assertEqual(vars(caught.exception), fields)

    def test_interface(self):
        self.assertEqual(Desk.__module__, "countdoors.desk")
        self.assertEqual(str(inspect.signature(Desk)), "(nest, numbers)")
        signatures = {"run": "(self, line)", "undo": "(self)", "redo": "(self)"}
        for name, signature in signatures.items():
            self.assertEqual(str(inspect.signature(vars(Desk)[name])), signature)
        for name in ["state", "numbers", "steps"]:
            self.assertIsInstance(vars(Desk)[name], property)


if __name__ == "__main__":
    unittest.main()
