"""Texts: nets and talks written down and read back."""

from anywait.errors import NoText
from anywait.nets import DEEPEST_HELD, checked, is_net, wire_names
from anywait.talks import MOST_STATES, checked_talk, is_talk


def net_text(net):
    return written_net(checked(net))


# What is read is taken as it comes: what is not just as it would be written shows when it is written anew.
def read_net(text):
    net = net_as_read(text) if isinstance(text, str) else None
    if not is_net(net) or written_net(net) != text:
        raise NoText("this is no text of a net")
    return net


def talk_text(net, talk):
    return written_talk(checked_talk(net, talk))


def read_talk(net, text):
    checked(net)
    talk = talk_as_read(text) if isinstance(text, str) else None
    if not is_talk(net, talk) or written_talk(talk) != text:
        raise NoText("this is no text of a talk for the net")
    return talk


def written_net(net):
    lines = [["input"] + list(net[0])] if net[0] else []
    lines.extend([["gate", name, written_kind(kind)] for name, kind in net[1]])
    lines.append(["start"] + [name for name, value in zip(wire_names(net), net[2]) if value])
    return written_lines(lines)


def written_talk(talk):
    lines = [["out"] + list(talk[0])]
    for state in talk[1]:
        lines.append(["state"] + [f"{wire}>{number}" for wire, number in state])
    return written_lines(lines)


def written_lines(lines):
    return "".join([" ".join(words) + "\n" for words in lines])


def written_kind(kind):
    word = kind[0]
    if word in ("same", "not"):
        return " ".join(kind)
    if word == "held":
        return " ".join([word, kind[2], "on" if kind[3] else "off", written_kind(kind[1])])
    names = " ".join(kind[1])
    if word == "table":
        return " ".join([word, f"({names})"] + [written_row(row) for row in kind[2]])
    return f"{word} {names}"


def written_row(row):
    return "".join(["1" if value else "0" for value in row])


# Lines that begin with no word of a net are left out here, as is a gate without a kind.
def net_as_read(text):
    lines = lines_of(text)
    inputs = words_behind(lines, "input")
    gates = [words for words in lines if words[0] == "gate" and len(words) > 2]
    names = inputs + [words[1] for words in gates]
    on = dict([(name, True) for name in words_behind(lines, "start")])
    kinds = [(words[1], kind_as_read(words[2:])) for words in gates]
    return (tuple(inputs), tuple(kinds), tuple([name in on for name in names]))


def talk_as_read(text):
    lines = lines_of(text)
    states = [tuple([move_as_read(word) for word in words[1:]]) for words in lines if words[0] == "state"]
    return (tuple(words_behind(lines, "out")), tuple(states))


def lines_of(text):
    return [line.split(" ") for line in text.split("\n")]


def words_behind(lines, word):
    found = []
    for words in lines:
        if words[0] == word:
            found.extend(words[1:])
    return found


# Held is not followed deeper than it may be: so no text, however long, is walked far in vain.
def kind_as_read(words):
    points = []
    while words[0] == "held" and len(words) > 3 and len(points) < DEEPEST_HELD:
        points.append((words[1], words[2] == "on"))
        words = words[3:]
    kind = plain_kind_as_read(words)
    for wire, way in reversed(points):
        kind = ("held", kind, wire, way)
    return kind


def plain_kind_as_read(words):
    if words[0] in ("same", "not"):
        return tuple(words)
    if words[0] == "table":
        return table_as_read(" ".join(words[1:]))
    return (words[0], tuple(words[1:]))


def table_as_read(text):
    parts = text.partition(")")
    rows = [tuple([sign == "1" for sign in row]) for row in parts[2].split(" ")[1:]]
    return ("table", tuple(parts[0][1:].split(" ")), tuple(rows))


def move_as_read(word):
    parts = word.partition(">")
    return (parts[0], number_as_read(parts[2]))


# None for what is no number of a state, which no talk then has.
def number_as_read(word):
    numbers = dict([(str(number), number) for number in range(MOST_STATES)])
    return numbers.get(word)
