"""Names, doors and kinds of boxes."""

from lentdoors.errors import InvalidDoor, InvalidKind

# The lendings and the lettings stand here from the loosest to the strictest.
LENDINGS = ("source", "address", "door")
LETTINGS = ("any", "address", "door")
TURNINGS = ("never", "lent", "inner")

LETTERS = "abcdefghijklmnopqrstuvwxyz"
MAX_LETTERS = 8


def is_name(value):
    """Whether the value is a name."""
    if not isinstance(value, str) or not 1 <= len(value) <= MAX_LETTERS:
        return False
    return all([sign in LETTERS for sign in value])


def is_integer(value):
    """Whether the value is an integer."""
    return isinstance(value, int) and not isinstance(value, bool)


def is_number(value):
    """Whether the value is an integer of at least 0."""
    return is_integer(value) and value >= 0


def is_kind(value):
    """Whether the value is a kind of a box."""
    if not isinstance(value, tuple) or len(value) != 3:
        return False
    return value[0] in LENDINGS and value[1] in LETTINGS and value[2] in TURNINGS


def is_door(value):
    """Whether the value is a pair of a name and an integer of at least 0."""
    if not isinstance(value, tuple) or len(value) != 2:
        return False
    return is_name(value[0]) and is_number(value[1])


def check_kind(value):
    """Raise InvalidKind for what is no kind."""
    if not is_kind(value):
        raise InvalidKind("no kind of a box")


def check_door(value):
    """Raise InvalidDoor for what is no door."""
    if not is_door(value):
        raise InvalidDoor("no door")


def is_as_loose(kind, other):
    """Whether the kind is at least as loose as the other one."""
    check_kind(kind)
    check_kind(other)
    return (
        LENDINGS.index(kind[0]) <= LENDINGS.index(other[0])
        and LETTINGS.index(kind[1]) <= LETTINGS.index(other[1])
        and other[2] in ("never", kind[2])
    )


def all_kinds():
    """The ascending list of all kinds."""
    return sorted([
        (lending, letting, turning)
        for lending in LENDINGS for letting in LETTINGS for turning in TURNINGS
    ])


def is_between(kind, least, most):
    """Whether the kind is within two bounds, of which each may be None."""
    if least is not None and not is_as_loose(kind, least):
        return False
    return most is None or is_as_loose(most, kind)


def kinds(*, least=None, most=None):
    """All kinds at least as loose as the one bound, and at most as loose as the other one, ascending."""
    for bound in (least, most):
        if bound is not None:
            check_kind(bound)
    for kind in all_kinds():
        if is_between(kind, least, most):
            yield kind
