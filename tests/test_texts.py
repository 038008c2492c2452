"""Books as texts (points 1, 2, 16)."""

import random
import re
import unittest

from errands.errors import NoBook, NoText
from errands.texts import read, shown
from tests.helper import DAY, EMPTY, check_refused, check_wrong_inputs, lively_cases, odd_things, random_books

DAY_TEXT = """facts bread coins dirty hot toast
shop 3, needs coins, makes bread, ends coins
light 1, bars hot, makes hot
bake 2, needs bread hot, bars dirty, makes dirty toast, ends bread
clean 9, needs dirty, bars hot, ends dirty
cool 0, ends hot
rest 0"""
# Words of the form itself as facts and names.
ODD_WORDS = (("bars", "ends", "facts", "makes", "needs"), (
    ("facts", ("facts", "needs"), ("bars",), ("ends", "makes"), ("facts",), 7),
    ("needs", (), (), ("needs",), (), 0),
    ("ends", (), (), (), (), 9)))
ODD_TEXT = """facts bars ends facts makes needs
facts 7, needs facts needs, bars bars, makes ends makes, ends facts
needs 0, makes needs
ends 9"""
WORDS = "((?: [a-z]{1,6})+)"
LINE = re.compile(f"([a-z]{{1,6}}) ([0-9])(?:, needs{WORDS})?(?:, bars{WORDS})?(?:, makes{WORDS})?(?:, ends{WORDS})?")


def words_of(text):
    return tuple((text or "").split())


def model_read(text):
    """The book that is written so, or None: by a pattern for each line, and then by what a book is."""
    first, *lines = text.split("\n")
    found = [LINE.fullmatch(line) for line in lines]
    if not re.fullmatch("facts(?: [a-z]{1,6}){0,6}", first) or not all(found) or len(lines) > 6:
        return None
    facts = words_of(first)[1:]
    errands = []
    for match in found:
        name, price, *parts = match.groups()
        errands.append((name, *[words_of(part) for part in parts], int(price)))
    fine = len({errand[0] for errand in errands}) == len(errands) and list(facts) == sorted(set(facts))
    for _, needs, bars, makes, ends, _ in errands:
        fine = fine and all(list(part) == sorted(set(part)) and set(part) <= set(facts)
                            for part in (needs, bars, makes, ends))
        fine = fine and not set(needs) & set(bars) and not set(makes) & set(ends)
    return (facts, tuple(errands)) if fine else None


def signs_changed(chance, text):
    """The text with a sign put in, taken out, exchanged, or two turned about."""
    place = chance.randrange(len(text) + 1)
    sign = chance.choice(" ,\nabz059\tA.-\r\u00e9\u0663\u00a0") if chance.random() < 0.5 else chance.choice(text)
    return [text[:place] + sign + text[place:], text[:place] + text[place + 1:], text[:place] + sign + text[place + 1:],
            text[:place] + text[place:place + 2][::-1] + text[place + 2:], text[:place], text[place:]]


def pieces_changed(chance, text, between):
    """The text with a word, a part or a line put in, taken out, exchanged, or two turned about."""
    pieces = text.split(between)
    one, other = chance.randrange(len(pieces)), chance.randrange(len(pieces))
    piece = chance.choice(pieces + ["needs", "bars", "ends", "makes", "facts", "", "a", "zz", "7"])
    turned = list(pieces)
    turned[one], turned[other] = turned[other], turned[one]
    changed = [pieces[:one] + [piece] + pieces[one:], pieces[:one] + pieces[one + 1:],
               pieces[:one] + [piece] + pieces[one + 1:], pieces[:one] + pieces[one:one + 1] * 2 + pieces[one + 1:],
               turned, pieces[::-1]]
    return [between.join(some) for some in changed]


class Shown(unittest.TestCase):
    def test_a_day(self):
        self.assertEqual(shown(DAY), DAY_TEXT)
        self.assertEqual(read(DAY_TEXT), DAY)

    def test_words_of_the_form_itself(self):
        self.assertEqual(shown(ODD_WORDS), ODD_TEXT)
        self.assertEqual(read(ODD_TEXT), ODD_WORDS)

    def test_no_facts_no_errands(self):
        for book, text in ((EMPTY, "facts"), ((("a", "b"), ()), "facts a b"),
                           (((), (("go", (), (), (), (), 4),)), "facts\ngo 4"),
                           (((), (("b", (), (), (), (), 0), ("a", (), (), (), (), 9))), "facts\nb 0\na 9")):
            with self.subTest(text=text):
                self.assertEqual(shown(book), text)
                self.assertEqual(read(text), book)

    def test_with_and_without_each_part(self):
        for signs in range(16):
            parts = [("a", "c") if signs >> at & 1 else () for at in (0, 3)]
            parts[1:1] = [("b", "d") if signs >> at & 1 else () for at in (1, 2)]
            book = (("a", "b", "c", "d"), (("go", *parts, 5),))
            words = [", " + " ".join((word,) + part)
                     for word, part in zip(("needs", "bars", "makes", "ends"), parts) if part]
            with self.subTest(signs=signs):
                self.assertEqual(shown(book), "facts a b c d\ngo 5" + "".join(words))
                self.assertEqual(read(shown(book)), book)

    def test_read_back(self):
        for book in random_books(271, 6) + [case[0] for case in lively_cases(271, 100)]:
            text = shown(book)
            self.assertIs(text.__class__, str)
            self.assertEqual(model_read(text), book)
            self.assertEqual(read(text), book)

    def test_the_kinds_of_what_is_read(self):
        facts, errands = read(DAY_TEXT)
        self.assertEqual({facts.__class__, errands.__class__}, {tuple})
        for errand in errands:
            self.assertEqual([part.__class__ for part in errand], [str, tuple, tuple, tuple, tuple, int])

    def test_what_is_no_book(self):
        check_wrong_inputs(self, shown, [(DAY, odd_things() + [(DAY[0], DAY[1] + (DAY[1][0],)), DAY_TEXT], NoBook)])


class Read(unittest.TestCase):
    def test_what_is_no_text(self):
        for thing in odd_things() + [DAY, EMPTY, ["facts"], ("facts",), b"facts", DAY_TEXT.encode(), {"facts": 1},
                                     bytearray(b"facts"), DAY_TEXT.split("\n")]:
            with self.subTest(kind=thing.__class__):
                check_refused(self, NoText, read, thing)

    def test_first_lines(self):
        for text in ("", "\n", " ", "fact", "facts ", " facts", "Facts", "FACTS a", "facts  a", "facts a ",
                     "facts a  b", "facts\ta", "facts,", "facts, a", "facts a, b", "factsa", "facts b a", "facts a a",
                     "facts A", "facts abcdefg", "facts a1", "facts 1", "facts a b c d e f g", "a b", "needs a",
                     "facts\u00a0a", "facts \u00e4", "facts\r", "facts a\r", "\ufefffacts", "facts a\x00",
                     "facts a\u2028go 1"):
            with self.subTest(text=text):
                check_refused(self, NoText, read, text)

    def test_lines_of_errands(self):
        for line in ("", " ", "go", "go ", "1", " 1", "go 10", "go 01", "go -1", "go +1", "go 1.", "go one",
                     "go \u0663", "go \u00b2", "go 1,", "go 1, ", "go 1,needs a", "go 1 ,needs a", "go 1 , needs a",
                     "go 1  needs a", "go 1 needs a", "go, needs a", "go  1", " go 1", "go 1 ", "go 1\t", "go 1\r",
                     "Go 1", "abcdefg 1", "go1", "go go 1", "1 go", "go 1 1", "go 1, needs", "go 1, needs ",
                     "go 1, needs  a",
                     "go 1, needs a ", "go 1,  needs a", "go 1, needs a,", "go 1, needs a, ", "go 1, needs b a",
                     "go 1, needs a a", "go 1, needs c", "go 1, needs go", "go 1, need a", "go 1, Needs a", "go 1, a",
                     "go 1, needs a, needs b", "go 1, needs a, needs a", "go 1, needs a, bars b, needs a",
                     "go 1, bars a, needs b", "go 1, makes a, bars b", "go 1, ends a, makes b", "go 1, ends a, needs a",
                     "go 1, makes a, needs a", "go 1, ends a, bars a", "go 1, needs a, bars a", "go 1, makes a, ends a",
                     "go 1, needs a b, bars b", "go 1, needs a, b", "go 1, needs a,bars b", "go 1, needs a; bars b",
                     "go 1, makes", "go 1, bars", "go 1, ends", "go 1, needs a, bars", "go 1, , needs a",
                     "go 1, price 2", "go 1, costs a", "facts a b", "needs a", "go True", "go 1, needs a.", "# go 1"):
            with self.subTest(line=line):
                check_refused(self, NoText, read, "facts a b\n" + line)
                check_refused(self, NoText, read, "facts a b\nbe 2, makes a\n" + line)
                check_refused(self, NoText, read, "facts a b\n" + line + "\nbe 2, makes a")

    def test_lines_in_between(self):
        for text in ("facts a\n\ngo 1", "\nfacts a\ngo 1", "facts a\ngo 1\n", "facts a\n", "go 1\nfacts a",
                     "facts a\r\ngo 1", "facts a\rgo 1", "facts a go 1", "facts a, go 1", "facts a\ngo 1\nfacts a",
                     "facts a\ngo 1\ngo 1", "facts a\ngo 1\nbe 1\ngo 2, makes a", "facts a\nfacts b\ngo 1"):
            with self.subTest(text=text):
                check_refused(self, NoText, read, text)

    def test_six_errands_and_no_more(self):
        lines = ["facts"] + [f"{name} 1" for name in "abcdefg"]
        self.assertEqual(len(read("\n".join(lines[:7]))[1]), 6)
        check_refused(self, NoText, read, "\n".join(lines))

    def test_each_figure(self):
        for number in range(10):
            self.assertEqual(read(f"facts\ngo {number}")[1][0][5], number)

    def test_long_texts(self):
        for text in (DAY_TEXT + "\n" * 100000, "facts" + " a" * 100000, "a" * 100000, ", " * 100000,
                     "facts a\ngo 1" + ", needs a" * 50000, "facts a\n" + "go 1\n" * 50000):
            check_refused(self, NoText, read, text)

    def test_each_sign_taken_out_put_in_and_doubled(self):
        for text in (DAY_TEXT, ODD_TEXT, "facts", "facts a\ngo 1, makes a"):
            for place in range(len(text)):
                changed = [text[:place] + text[place + 1:], text[:place + 1] + text[place:]]
                changed += [text[:place] + sign + text[place:] for sign in " ,\nx5"]
                for other in changed:
                    self.check_as_the_model(other)

    def check_as_the_model(self, text):
        """That it is read as the model reads it, and written just so; whether it is a book's text."""
        expected = model_read(text)
        if expected is None:
            check_refused(self, NoText, read, text)
        else:
            self.assertEqual(read(text), expected, text)
            self.assertEqual(shown(read(text)), text)
        return expected is not None

    def test_texts_a_little_other(self):
        chance = random.Random(272)
        some, none = 0, 0
        books = random_books(273, 2) + [case[0] for case in lively_cases(273, 60)] + [DAY, ODD_WORDS, EMPTY]
        for text in [shown(book) for book in books]:
            for _ in range(6):
                changed = signs_changed(chance, text)
                for between in (" ", ", ", "\n"):
                    changed += pieces_changed(chance, text, between)
                for other in changed:
                    fine = self.check_as_the_model(other)
                    some += fine and other != text
                    none += not fine
        self.assertGreater(min(some, none), 500)


if __name__ == "__main__":
    unittest.main()
