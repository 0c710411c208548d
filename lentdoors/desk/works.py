"""Works, nets with talks that fit them, and what each command does to them.

Works are kept in a dict from names to tuples of a net, the talk, and the live net after the talk. A change is a
function of such a dict and the words of the command; it returns a new dict and the reply, None for that of the desk.
A question is such a function that returns the reply alone. None of them changes the dict, or a live net in it.
"""

from lentdoors.base.nets import need
from lentdoors.errors import InvalidOperation, NothingToUndo, ParseError
from lentdoors.know.hearing import hears, talk_to
from lentdoors.live.nets import LiveNet
from lentdoors.live.talks import Talk, after, referring, sent
from lentdoors.texts.reading import message_in, read_net
from lentdoors.texts.writing import net_text, talk_text

BETWEEN_LINES = "; "


def work_of(works, name):
    """The work with this name."""
    need(works, name)
    return works[name]


def with_work(works, name, work):
    """The works with a further one, or with another one in its place."""
    changed = dict(works)
    changed[name] = work
    return changed


def check_new_work(works, name):
    """Raise InvalidOperation if a work has this name."""
    if name in works:
        raise InvalidOperation("a work with this name is there already")


def new_work(works, words):
    """A work with a net that is told by the words."""
    check_new_work(works, words[1])
    net = read_net(" ".join(words[2:]).replace(BETWEEN_LINES, "\n"))
    return (with_work(works, words[1], (net, Talk(), LiveNet(net))), str(net))


def copied_work(works, words):
    """One more work like one that is there."""
    work = work_of(works, words[1])
    check_new_work(works, words[2])
    return (with_work(works, words[2], work), str(work[0]))


def dropped_work(works, words):
    """A work goes."""
    need(works, words[1])
    return ({name: works[name] for name in works if name != words[1]}, None)


def changed_net_of(net, words):
    """The net with the change that the words of a command tell."""
    word, _, first = words[:3]
    if word == "kind":
        return net.with_kind(first, tuple(words[3:]))
    if word == "box":
        return net.with_box(first, words[3], tuple(words[4:]))
    if word == "host":
        return net.with_host(first, words[3])
    if word == "teller":
        return net.with_teller(first)
    return net.with_known(first, words[3]) if word == "known" else net.with_twin(first, words[3])


def with_changed_net(works, words):
    """The net of a work is changed, if its talk goes on fitting."""
    net, talk, _ = work_of(works, words[1])
    changed = changed_net_of(net, words)
    live = after(changed, talk, None)
    if live is None:
        raise InvalidOperation("the talk does not fit the new net")
    return (with_work(works, words[1], (changed, talk, live)), str(changed))


def with_messages(work, messages):
    """The work with further messages in its talk."""
    net, talk, live = work
    longer = live.copy()
    shown = {at: entry[4] for at, entry in enumerate(live.log())}
    for at, message in enumerate(messages):
        # Whether a message fits is told ahead of whether there is room for it.
        if not sent(longer, message, len(talk) + at, shown):
            raise InvalidOperation("the talk does not fit the net")
    return (net, Talk.of((*talk.messages(), *messages)), longer)


def with_sent(works, words):
    """A message that is told by the words is added to the talk."""
    work = work_of(works, words[1])
    found = message_in(" ".join(words[2:]), len(work[1]))
    if not found:
        raise ParseError(0)
    longer = with_messages(work, found)
    hearer = longer[2].log()[-1][3]
    return (with_work(works, words[1], longer), "lost" if hearer is None else f"heard by {hearer}")


def with_back(works, words):
    """The last message of the talk goes."""
    net, talk, live = work_of(works, words[1])
    if len(talk) == 0:
        raise NothingToUndo(1)
    shorter = talk.without(len(talk) - 1)
    before = live.copy()
    before.back()
    return (with_work(works, words[1], (net, shorter, before)), str(shorter))


def with_reached(works, words):
    """What is needed for a host to hear another one is added to the talk, if it has not heard it yet."""
    _, name, host, other = words
    work = work_of(works, name)
    net, talk, live = work
    if not hears(net, host, other):
        return (works, "never")
    if other not in live.heard(host):
        found = talk_to(net, host, other).messages()
        places = [len(talk) + at for at in range(len(found))]
        work = with_messages(work, [referring(message, places) for message in found])
    return (with_work(works, name, work), "heard")


def shown_net(works, words):
    """The text of the net of a work, on one line."""
    return net_text(work_of(works, words[1])[0]).replace("\n", BETWEEN_LINES)


def shown_talk(works, words):
    """The text of the talk of a work, on one line."""
    return talk_text(work_of(works, words[1])[1]).replace("\n", BETWEEN_LINES)


def shown_heard(works, words):
    """The hosts that a host has heard in the talk."""
    return " ".join(work_of(works, words[1])[2].heard(words[2])) or "nobody"


def shown_hears(works, words):
    """Whether a host can come to hear another one."""
    return "yes" if hears(work_of(works, words[1])[0], words[2], words[3]) else "no"


CHANGES = {
    "new": new_work,
    "copy": copied_work,
    "drop": dropped_work,
    "kind": with_changed_net,
    "box": with_changed_net,
    "host": with_changed_net,
    "teller": with_changed_net,
    "known": with_changed_net,
    "twin": with_changed_net,
    "send": with_sent,
    "back": with_back,
    "reach": with_reached,
}
QUESTIONS = {
    "show": shown_net,
    "talk": shown_talk,
    "heard": shown_heard,
    "hears": shown_hears,
}
