"""Desks: works that commands change, with what can be taken back and made anew."""

from lentdoors.base.forms import holds
from lentdoors.base.kinds import is_name
from lentdoors.desk.works import CHANGES, QUESTIONS, work_of
from lentdoors.errors import InvalidCommand, NothingToUndo, TooMany

MAX_WORKS = 8
MAX_CHANGES = 200

# How many words each command has; those in LONGER may have more.
SIZES = {
    "new": 3, "copy": 3, "drop": 2, "kind": 6, "box": 7, "host": 4, "teller": 3, "known": 4, "twin": 4, "send": 3,
    "back": 2, "reach": 4, "show": 2, "talk": 2, "heard": 3, "hears": 4, "undo": 1, "redo": 1,
}
LONGER = ("new", "send")
# Which word of a command has to be a name for a new work.
NAMING = {"new": 1, "copy": 2}


def is_command(words):
    """Whether these are the words of a command."""
    word = words[0]
    if "" in words or word not in SIZES or len(words) < SIZES[word]:
        return False
    if len(words) > SIZES[word] and word not in LONGER:
        return False
    return word not in NAMING or is_name(words[NAMING[word]])


def words_of(line):
    """The list of the words of a command."""
    if not isinstance(line, str) or "\n" in line or not is_command(line.split(" ")):
        raise InvalidCommand("no command")
    return line.split(" ")


class Desk:
    """Works under names, and the changes that led to them."""

    def __init__(self):
        # The dict of works is never changed, only replaced. Beside the line of each change stand the works before it,
        # or, if it was taken back, those after it.
        self._works = {}
        self._past = []
        self._ahead = []

    def run(self, line):
        """Carry out a command, or answer a question; the reply."""
        words = words_of(line)
        if words[0] == "undo":
            return self._undo()
        if words[0] == "redo":
            return self._redo()
        if words[0] in QUESTIONS:
            answer = QUESTIONS[words[0]]
            return answer(self._works, words)
        return self._change(line, words)

    def run_all(self, *lines):
        """Run all of these lines, or none if one of them raises an error; the tuple of the replies."""
        trial = Desk()
        trial._works = self._works
        trial._past = list(self._past)
        trial._ahead = list(self._ahead)
        replies = tuple([trial.run(line) for line in lines])
        self._works = trial._works
        self._past = trial._past
        self._ahead = trial._ahead
        return replies

    def works(self):
        """The ascending tuple of the names of the works."""
        return tuple(sorted(self._works))

    def net_of(self, work):
        """The net of a work."""
        return work_of(self._works, work)[0]

    def talk_of(self, work):
        """The talk of a work."""
        return work_of(self._works, work)[1]

    def live_of(self, work):
        """The live net after the talk of a work."""
        return work_of(self._works, work)[2].copy()

    def script(self):
        """The tuple of the lines of all changes that are not taken back."""
        return tuple([line for line, _ in self._past])

    def _change(self, line, words):
        """Make a change, and forget those that were taken back."""
        action = CHANGES[words[0]]
        works, reply = action(self._works, words)
        if len(works) > MAX_WORKS:
            raise TooMany(MAX_WORKS)
        if len(self._past) == MAX_CHANGES:
            raise TooMany(MAX_CHANGES)
        self._past.append((line, self._works))
        self._ahead = []
        self._works = works
        return str(self) if reply is None else reply

    def _undo(self):
        """Take back the last change."""
        if not self._past:
            raise NothingToUndo(1)
        line, works = self._past.pop()
        self._ahead.append((line, self._works))
        self._works = works
        return str(self)

    def _redo(self):
        """Make anew the last change that was taken back."""
        if not self._ahead:
            raise NothingToUndo(1)
        line, works = self._ahead.pop()
        self._past.append((line, self._works))
        self._works = works
        return str(self)

    def _kept(self):
        """A dict from the names of the works to their nets and talks."""
        return {name: work[:2] for name, work in self._works.items()}

    def __contains__(self, value):
        return holds(self._works, value)

    def __len__(self):
        return len(self._works)

    def __eq__(self, value):
        return isinstance(value, Desk) and self._kept() == value._kept()

    def __str__(self):
        return f"desk with {len(self._works)} works"
