"""Texts of nests (point 4)."""

import unittest

from countdoors.errors import DoorError, InvalidText
from countdoors.nesttext import read_nest, write_nest

from tests import brute

NINE = "; ".join(["8: 0"] * 8 + ["-: 0 1 2 3 4 5 6 7 8"])
# Texts, each with the place of the first character that cannot stand.
WRONG_TEXTS = [
    # The text ends too early.
    ("", 0), ("   ", 3), ("-", 1), ("- ", 2), ("1", 1), ("-:;", 3), ("-: 0; ", 6), ("1:0", 3), ("1: 0;-", 6),
    # An index of no door, known at the end only.
    ("1:", 2), ("8: 0; -: 0", 10), ("2:0; -:0  ", 10), ("5:;-:;-:", 8), ("1:;2:", 5), ("1:;-:;8:;-:", 11),
    # An index that is 9, or not greater than the own one.
    ("9: 0", 0), (" 9:;-:", 1), ("0:;-:", 0), ("1:;1:;-:", 3), ("2:;2:; 0:", 7), ("2:;0:;-:", 3), ("-:;-:;2:", 6),
    ("-:;-:;-:;-:;-:;-:;-:;-:;8:", 24), ("-:;-:;-:;-:;-:;-:;-:;-:;9:", 24),
    # A number of more than one digit, as an index and as a number.
    ("10:;-:", 0), ("01:;-:", 0), (" 12 :;-:", 1), ("-: 00", 3), ("-:10", 2), ("-: 0 12 3", 5), ("-:0 1 02", 6),
    ("-: 0 111111111111111111111111", 5), ("123456789", 0), ("1:;22:", 3),
    # A number that is 9, or not greater than the one before it.
    ("-:9", 2), ("-: 0 9", 5), ("-:0 0", 4), ("-: 1 0", 5), ("-: 8  8", 6), ("-:1 2 2 1", 6), ("1: 3;-:4 3", 9),
    # A tenth door.
    (NINE + ";", len(NINE)), (NINE + "; -: 0", len(NINE)), (NINE + "  ;x", len(NINE) + 2),
    ("1:0;-:" + ";-:" * 8, 27), (";".join(["9:"] * 10), 0),
    # Other characters, or characters in other places.
    ("x", 0), (":", 0), (";", 0), (" ;", 1), ("--", 1), ("-1:", 1), ("1-:", 1), ("1 2:;-:;-:", 2), ("1;-:", 1),
    ("-::", 2), ("-: -", 3), ("-:0,1", 3), ("-:0:", 3), ("-:;;", 3), ("-:0;x", 4), ("-:\t0", 2), ("-:\n", 2),
    ("-:0\n", 3), ("-: +1", 3), ("-:0 1x", 5), ("-: 0.", 4), ("-:\u0661", 2), ("\u00b2:", 0), ("-\u00a0:", 1),
    ("None: 0", 0), ("-:\u00b2", 2), ("-:0\u0661", 3), ("- -:", 2), ("-:0 ; 1:", 6), ("e", 0), ("end", 0),
    # What comes first counts, also before an index of no door.
    ("8: 0; -: 1 0", 11), ("8: 0; -: 9 x", 9), ("8:;x", 3), ("x 9 10", 0), ("-:10 9", 2), ("5:;5:;2:", 6),
]


class Writing(unittest.TestCase):
    def test_texts(self):
        self.assertEqual(write_nest((1, None), ((0,), (0, 1))), "1: 0; -: 0 1")
        self.assertEqual(write_nest((None,), ((),)), "-:")
        self.assertEqual(write_nest((2, None, None), ((), (0, 8), ())), "2:; -: 0 8; -:")
        self.assertEqual(write_nest((8,) * 8 + (None,), ((0,),) * 8 + (tuple(range(9)),)), NINE)

    def test_there_and_back(self):
        for nest, numbers in brute.houses():
            with self.subTest(nest=nest, numbers=numbers):
                self.assertEqual(read_nest(write_nest(nest, numbers)), (nest, numbers))


class Reading(unittest.TestCase):
    def test_texts(self):
        for text, pair in [
            ("-:", ((None,), ((),))),
            ("-:0", ((None,), ((0,),))),
            ("1:;-:", ((1, None), ((), ()))),
            ("2:0;2 :0; - : 1", ((2, 2, None), ((0,), (0,), (1,)))),
            ("1:0 1 8;-:8", ((1, None), ((0, 1, 8), (8,)))),
            (NINE, ((8,) * 8 + (None,), ((0,),) * 8 + (tuple(range(9)),))),
        ]:
            with self.subTest(text):
                self.assertEqual(read_nest(text), pair)

    def test_spaces_everywhere(self):
        pair = ((1, None), ((0,), (0, 1)))
        self.assertEqual(read_nest("   1   :   0   ;   -   :   0   1   "), pair)
        words = ["1", ":", "0", ";", "-", ":", "0", "1"]
        for at in range(len(words) + 1):
            between = ["  " if k == at else "" for k in range(len(words) + 1)]
            between[7] = between[7] or " "
            text = "".join(space + word for space, word in zip(between, words + [""]))
            with self.subTest(text):
                self.assertEqual(read_nest(text), pair)

    def test_wrong_texts(self):
        for text, place in WRONG_TEXTS:
            with self.subTest(text):
                with self.assertRaises(InvalidText) as caught:
                    read_nest(text)
                self.assertEqual(caught.exception.place, place)

    def test_long_texts(self):
        for text, place in [("-:" + " " * 50000, None), ("1" * 50000, 0), ("-:0 " + "1" * 50000, 4)]:
            with self.subTest(len(text)):
                if place is None:
                    self.assertEqual(read_nest(text), ((None,), ((),)))
                    continue
                with self.assertRaises(InvalidText) as caught:
                    read_nest(text)
                self.assertEqual(caught.exception.place, place)

    def test_first_character_that_cannot_stand(self):
        """Whatever follows the text, the place of an error ahead of its end stays."""
        for text, place in WRONG_TEXTS:
            if place == len(text):
                continue
            for tail in ["", " 0", ";", "x", ":"]:
                with self.subTest(text=text, tail=tail):
                    with self.assertRaises(DoorError) as caught:
                        read_nest(text + tail)
                    self.assertEqual(caught.exception.place, place)

    def test_ends_too_early(self):
        text = "2: 0; 2: 0 1; -: 1"
        for end in range(len(text)):
            # Behind the last colon the text may end.
            if text[:end].rstrip().endswith("-:"):
                self.assertEqual(read_nest(text[:end])[1][2], ())
                continue
            with self.subTest(text[:end]):
                with self.assertRaises(InvalidText) as caught:
                    read_nest(text[:end])
                self.assertEqual(caught.exception.place, end)


if __name__ == "__main__":
    unittest.main()
