"""Books as texts: a book is written in one way, and only that is read back."""

from errands.books import checked, is_book
from errands.errors import NoText

PARTS = ("needs", "bars", "makes", "ends")
FIGURES = "0123456789"


def line_of(errand):
    """The line of an errand."""
    parts = [f"{errand[0]} {errand[5]}"]
    for word, facts in zip(PARTS, errand[1:5]):
        if facts:
            parts.append(" ".join((word,) + facts))
    return ", ".join(parts)


def text_of(book):
    """The text of a book."""
    first = " ".join(("facts",) + book[0])
    return "\n".join([first] + [line_of(errand) for errand in book[1]])


def facts_behind(word, parts):
    """The facts of the first of the parts that begins with the word; none, where no part does."""
    for part in parts:
        first, *facts = part.split(" ")
        if first == word:
            return tuple(facts)
    return ()


def price_told(text):
    """The price, or what is none."""
    # int would take more than the ten figures, and blanks too.
    return FIGURES.find(text) if len(text) == 1 else None


def errand_of(line):
    """What the line tells of an errand; whether it is one is still to be asked."""
    head, *parts = line.split(", ")
    name, blank, price = head.partition(" ")
    return (name,) + tuple([facts_behind(word, parts) for word in PARTS]) + (price_told(price),)


def shown(book):
    """The book, written in lines."""
    return text_of(checked(book))


def read(text):
    """The book that is written so."""
    if not isinstance(text, str):
        raise NoText("it is no text")
    first, *lines = text.split("\n")
    book = (tuple(first.split(" ")[1:]), tuple([errand_of(line) for line in lines]))
    # What was passed over while reading, or stood out of order, is not there when the book is written anew.
    if not is_book(book) or text_of(book) != text:
        raise NoText("it is not written as a book is")
    return book
