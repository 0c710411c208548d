"""The errors that this package raises."""


class DoorError(ValueError):
    """An argument that is not what it should be."""


class InvalidKind(DoorError):
    """No kind of a box, or no name for one."""


class InvalidNet(DoorError):
    """No net."""


class InvalidDoor(DoorError):
    """No door, or not one of this box."""


class InvalidTalk(DoorError):
    """No talk."""


class InvalidChain(DoorError):
    """No chain of boxes, or no chain kind."""


class InvalidSort(DoorError):
    """No sort of doors."""


class InvalidTable(DoorError):
    """No table."""


class InvalidMap(DoorError):
    """No map of nets."""


class InvalidOperation(DoorError):
    """Valid arguments for which there is no result."""


class InvalidCommand(DoorError):
    """No command of a desk."""


class ParseError(DoorError):
    """A text that is wrong at the line with this index."""

    def __init__(self, line):
        self.line = line


class UnknownName(KeyError):
    """A name of nothing that is there."""

    def __init__(self, name):
        self.name = name


class InvalidNumber(IndexError):
    """A value that is no number for this use."""

    def __init__(self, value):
        self.value = value


class NothingToUndo(LookupError):
    """Fewer calls or changes to take back than this many."""

    def __init__(self, many):
        self.many = many


class Unheard(LookupError):
    """There is no talk, as this table shows."""

    def __init__(self, table):
        # The caller may go on to change its dict; the error keeps what it was told.
        self.table = dict(table) if isinstance(table, dict) else table


class TooMany(OverflowError):
    """More than this limit allows."""

    def __init__(self, limit):
        self.limit = limit
