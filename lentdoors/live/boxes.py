"""Boxes at work: what they have lent, and for what it was used."""

from lentdoors.base.kinds import check_door, check_kind, is_door, is_name, is_number
from lentdoors.errors import InvalidDoor, InvalidKind, InvalidNumber


def lending_case(lending, source, target):
    """That for which a box always lends the same door."""
    if lending == "source":
        return (source,)
    if lending == "address":
        return (source, target[0])
    return (source, target)


def next_number(numbers, many):
    """The number that a chooser gives to the next door; None counts on from 1."""
    if numbers is None:
        return many + 1
    return numbers(many)


class LiveBox:
    """A box that lends doors, and notes the targets for which they were used."""

    def __init__(self, name, kind, *, numbers=None):
        if not is_name(name):
            raise InvalidKind("no name")
        check_kind(kind)
        self._name = name
        self._kind = kind
        self._numbers = numbers
        self._cases = {}
        self._inner = {}
        self._uses = {}
        # A tuple, so that a loop over the box does not see what is lent in it.
        self._order = ()
        self._notes = []

    @property
    def address(self):
        """The name of the box."""
        return self._name

    @property
    def kind(self):
        """The kind of the box."""
        return self._kind

    def lend(self, source, target):
        """The door that the box lends for these doors; it was used for the target."""
        check_door(source)
        check_door(target)
        door = self.offer(source, target)
        self.note(source, target, door)
        return door

    def offer(self, source, target):
        """The door that is lent for these doors, or the new one that would be; nothing is noted yet."""
        key = lending_case(self._kind[0], source, target)
        if key in self._cases:
            return self._cases[key]
        number = next_number(self._numbers, len(self._order))
        if not is_number(number) or (self._name, number) in self._inner:
            raise InvalidNumber(number)
        return (self._name, number)

    def note(self, source, target, door):
        """Lend the door that was offered for these doors, if it is new; it was used for the target."""
        if door not in self._inner:
            self._cases[lending_case(self._kind[0], source, target)] = door
            self._inner[door] = source
            self._uses[door] = {}
            self._order = (*self._order, door)
        if target not in self._uses[door]:
            self._uses[door][target] = True
            self._notes.append((door, target))

    def lets_in(self, door, source):
        """Whether a message from the source to this lent door is let in."""
        self._check_lent(door)
        check_door(source)
        letting = self._kind[1]
        if letting == "any":
            return True
        if letting == "address":
            return source[0] in [target[0] for target in self._uses[door]]
        return source in self._uses[door]

    def inner(self, door):
        """The door in the place of which this one was lent."""
        self._check_lent(door)
        return self._inner[door]

    def used(self, door):
        """The ascending tuple of the doors for which this lent door was used."""
        self._check_lent(door)
        return tuple(sorted(self._uses[door]))

    def doors(self):
        """The ascending tuple of all lent doors."""
        return tuple(sorted(self._order))

    def lent_for(self, door):
        """The target of the message for which this door was lent."""
        return next(iter(self._uses[door]), None)

    def many_notes(self):
        """How many pairs of a lent door and a target have been noted."""
        return len(self._notes)

    def take_back(self, many):
        """Keep the first notes alone, this many, and the doors that were lent for them."""
        while len(self._notes) > many:
            door, target = self._notes.pop()
            del self._uses[door][target]
            # The first use of a door is noted when it is lent, so the last door goes with its last use.
            if not self._uses[door]:
                del self._cases[lending_case(self._kind[0], self._inner[door], target)]
                del self._inner[door]
                del self._uses[door]
                self._order = self._order[:-1]

    def copied(self):
        """A box like this one, with the same chooser, that goes on by itself."""
        other = LiveBox(self._name, self._kind, numbers=self._numbers)
        other._cases = {key: self._cases[key] for key in self._cases}
        other._inner = {door: self._inner[door] for door in self._inner}
        other._uses = {door: {target: True for target in self._uses[door]} for door in self._uses}
        other._order = self._order
        other._notes = list(self._notes)
        return other

    def _check_lent(self, door):
        """Raise InvalidDoor for what is not a door that this box has lent."""
        if door not in self:
            raise InvalidDoor("not lent by this box")

    def __contains__(self, value):
        return is_door(value) and value in self._inner

    def __iter__(self):
        return iter(self._order)

    def __len__(self):
        return len(self._order)

    def __eq__(self, value):
        return (
            isinstance(value, LiveBox)
            and self._name == value._name
            and self._kind == value._kind
            and self._inner == value._inner
            and self._uses == value._uses
        )

    def __str__(self):
        return f"box {self._name} with {len(self._order)} doors"
