"""The refusals. Each class stands straight under BenchError, none under another one."""


class BenchError(ValueError):
    """Any refusal."""


class NoBook(BenchError):
    """A thing that is no book; number is that of the first fault, None where it is no list."""

    def __init__(self, number):
        super().__init__(f"no book, by number {number}")
        self.number = number


class Crowded(BenchError):
    """More stretches are over the moment than benches are there."""

    def __init__(self, moment):
        super().__init__(f"too few benches at the moment {moment}")
        self.moment = moment


class NoRing(BenchError):
    """A thing that is no ring; number is that of the first fault, None where its form is none."""

    def __init__(self, number):
        super().__init__(f"no ring, by number {number}")
        self.number = number


class NoTree(BenchError):
    """A thing that is no tree; way leads to the first thing that can't stand there."""

    def __init__(self, way):
        super().__init__(f"no tree, by the way {way}")
        # A walk goes on using its own list; the field must not change with it.
        self.way = list(way) if isinstance(way, list) else way


class NoText(BenchError):
    """A text that writes nothing; row is the number of the first row at fault."""

    def __init__(self, row):
        super().__init__(f"no such text, by row {row}")
        self.row = row


class TooMany(BenchError):
    """More than can be taken."""


class NoBenches(BenchError):
    """A thing that is no number of benches."""


class NoStretch(BenchError):
    """What would be no stretch, or could not stand in the book."""


class Unknown(BenchError):
    """A name by which nothing stands."""


class NoUndo(BenchError):
    """No deed is left to be undone."""


class NoTurn(BenchError):
    """A number or factor that is none, or nothing that could come of it."""


class NoRow(BenchError):
    """A row that the desk does not know."""
