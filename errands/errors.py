"""The refusals: one class for each, all under PlanError, none under another."""


class PlanError(ValueError):
    """Any refusal."""


class NoBook(PlanError):
    """What was handed in is no book."""


class NoState(PlanError):
    """It is no state of the book."""


class NoWant(PlanError):
    """It is no want of the book."""


class NoErrand(PlanError):
    """It is no errand, or none that will do here."""


class NoRow(PlanError):
    """It is no row, or it can't be done.

    Its number is None, where it is no row, else the place in the row, from 0 on,
    of the first errand that can't be done.
    """

    def __init__(self, number=None):
        self.number = number


class NoWay(PlanError):
    """No row serves the want."""


class NoPaper(PlanError):
    """It is no paper, or one that shows nothing."""


class NoFacts(PlanError):
    """It is not made of the book's facts as it should be."""


class NoNumber(PlanError):
    """It is no whole number within the bounds."""


class Nothing(PlanError):
    """There is nothing to take back, or to do again."""


class NoText(PlanError):
    """It is not the text of a book."""
