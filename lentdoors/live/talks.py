"""Talks: messages that are sent one after another."""

from lentdoors.base.forms import is_pair
from lentdoors.base.kinds import is_name, is_number
from lentdoors.base.nets import check_net
from lentdoors.errors import InvalidNumber, InvalidOperation, InvalidTalk
from lentdoors.live.nets import LiveNet

MAX_TALK = 6000


def is_message(value, at):
    """Whether the value is a message that has the place with this index in a talk."""
    if not is_pair(value) or not is_name(value[0]) or not is_pair(value[1]):
        return False
    word, what = value[1]
    if word == "own":
        return is_name(what)
    return word == "shown" and is_index(what, at)


def is_index(value, many):
    """Whether the value is the index of one of this many things."""
    return is_number(value) and value < many


def check_talk(value):
    """Raise InvalidTalk for what is no talk."""
    if not isinstance(value, Talk):
        raise InvalidTalk("no talk")


def reference(message):
    """The index of the message to which this one refers, or None."""
    word, what = message[1]
    return what if word == "shown" else None


def referring(message, places):
    """The message, with the place that a dict or a list gives to the message to which it refers."""
    at = reference(message)
    return message if at is None else (message[0], ("shown", places[at]))


class Talk:
    """Messages, each from the door 0 of its sender. A talk never changes."""

    def __init__(self, *messages):
        if len(messages) > MAX_TALK or not all([is_message(one, at) for at, one in enumerate(messages)]):
            raise InvalidTalk("no talk")
        self._messages = messages

    @classmethod
    def of(cls, messages):
        """The talk with the messages of this tuple."""
        if not isinstance(messages, tuple):
            raise InvalidTalk("no tuple of messages")
        return cls(*messages)

    def messages(self):
        """The tuple of the messages."""
        return self._messages

    def without(self, index):
        """The talk without one message, to which no later one refers."""
        self._check_index(index)
        if index in [reference(message) for message in self._messages]:
            raise InvalidOperation("a later message refers to it")
        places = [at - 1 if at > index else at for at in range(len(self._messages))]
        kept = self._messages[:index] + self._messages[index + 1:]
        return Talk.of(tuple([referring(message, places) for message in kept]))

    def senders(self):
        """The ascending tuple of the senders."""
        return tuple(sorted({message[0] for message in self._messages}))

    def _check_index(self, index):
        """Raise InvalidNumber for what is not the index of a message."""
        if not is_index(index, len(self._messages)):
            raise InvalidNumber(index)

    def __getitem__(self, index):
        self._check_index(index)
        return self._messages[index]

    def __add__(self, other):
        if not isinstance(other, Talk) or len(self._messages) + len(other._messages) > MAX_TALK:
            raise InvalidOperation("no talk to add, or too many messages")
        places = [len(self._messages) + at for at in range(len(other._messages))]
        return Talk.of(self._messages + tuple([referring(message, places) for message in other._messages]))

    def __iter__(self):
        return iter(self._messages)

    def __len__(self):
        return len(self._messages)

    def __eq__(self, value):
        return isinstance(value, Talk) and self._messages == value._messages

    def __str__(self):
        return f"talk of {len(self._messages)} messages"


def target_of(message, shown):
    """The door to which a message goes, by the sources that earlier ones showed (a dict from indices), or None."""
    word, what = message[1]
    return (what, 0) if word == "own" else shown.get(what)


def sent(live, message, index, shown):
    """Send a message of a talk, if this can be done, and note what it shows; whether it was sent."""
    target = target_of(message, shown)
    if not live.can_send(message[0], target):
        return False
    live.send(message[0], target)
    shown[index] = live.log()[-1][4]
    return True


def after(net, talk, numbers):
    """The live net after a talk, or None if it does not fit."""
    live = LiveNet(net, numbers=numbers)
    shown = {}
    for index, message in enumerate(talk.messages()):
        if not sent(live, message, index, shown):
            return None
    return live


def fits(net, talk):
    """Whether the talk fits the net."""
    check_net(net)
    check_talk(talk)
    return after(net, talk, None) is not None


def carried(net, talk, *, numbers=None):
    """The live net after the talk."""
    # Whether it fits does not depend on the numbers, and is told ahead of a wrong one.
    if not fits(net, talk):
        raise InvalidOperation("the talk does not fit the net")
    return after(net, talk, numbers)


def hearers(net, talk):
    """The tuple of the hosts that hear the messages, None for lost ones."""
    return tuple([entry[3] for entry in carried(net, talk)])
