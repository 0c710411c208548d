"""Boxes at work: what they have lent, and for what it was used."""

from lentdoors.base.kinds import check_door, check_kind, is_door, is_name, is_number
from lentdoors.errors import InvalidDoor, InvalidKind, InvalidNumber


def lending_case(lending, source, target):
    """That for which a box always lends the same door."""
    if lending == "source":
        return (source,)
    if lending == "address":
        return (source, target[0])
    return (source, target)


def next_number(numbers, many):
    """The number that a chooser gives to the next door; None counts on from 1."""
    if numbers is None:
        return many + 1
    return numbers(many)


class LiveBox:
    """A box that lends doors, and notes the targets for which they were used."""

    def __init__(self, name, kind, *, numbers=None):
        if not is_name(name):
            raise InvalidKind("no name")
        check_kind(kind)
        self._name = name
        self._kind = kind
        self._numbers = numbers
        self._cases = {}
        self._inner = {}
        self._uses = {}
        # A tuple, so that a loop over the box does not see what is lent in it.
        self._order = ()

    @property
    def address(self):
        """The name of the box."""
        return self._name

    @property
    def kind(self):
        """The kind of the box."""
        return self._kind

    def lend(self, source, target):
        """The door that the box lends for these doors; it was used for the target."""
        check_door(source)
        check_door(target)
        key = lending_case(self._kind[0], source, target)
        if key not in self._cases:
            self._cases[key] = self._lend_new(source)
        door = self._cases[key]
        self._uses[door][target] = True
        return door

    def lets_in(self, door, source):
        """Whether a message from the source to this lent door is let in."""
        self._check_lent(door)
        check_door(source)
        letting = self._kind[1]
        if letting == "any":
            return True
        if letting == "address":
            return source[0] in [target[0] for target in self._uses[door]]
        return source in self._uses[door]

    def inner(self, door):
        """The door in the place of which this one was lent."""
        self._check_lent(door)
        return self._inner[door]

    def used(self, door):
        """The ascending tuple of the doors for which this lent door was used."""
        self._check_lent(door)
        return tuple(sorted(self._uses[door]))

    def doors(self):
        """The ascending tuple of all lent doors."""
        return tuple(sorted(self._order))

    def _lend_new(self, source):
        """Lend a door with a number that was not lent before."""
        number = next_number(self._numbers, len(self._order))
        if not is_number(number) or (self._name, number) in self._inner:
            raise InvalidNumber(number)
        door = (self._name, number)
        self._inner[door] = source
        self._uses[door] = {}
        self._order = (*self._order, door)
        return door

    def _check_lent(self, door):
        """Raise InvalidDoor for what is not a door that this box has lent."""
        if door not in self:
            raise InvalidDoor("not lent by this box")

    def __contains__(self, value):
        return is_door(value) and value in self._inner

    def __iter__(self):
        return iter(self._order)

    def __len__(self):
        return len(self._order)

    def __eq__(self, value):
        return (
            isinstance(value, LiveBox)
            and self._name == value._name
            and self._kind == value._kind
            and self._inner == value._inner
            and self._uses == value._uses
        )

    def __str__(self):
        return f"box {self._name} with {len(self._order)} doors"
