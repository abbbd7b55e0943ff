"""The document's words on texts told a second time: the forms of lines, and what the words in them must be.

Also texts that are spoilt in some way or other.
"""

import re

from tests.samples import WORDS

NAME = "[a-z]{1,6}"
NAMES = f"{NAME}(?: {NAME})*"
KIND = (
    rf"(?:held {NAME} (?:on|off) ){{0,3}}"
    rf"(?:(?:same|not) {NAME}|(?:and|or|both) {NAMES}|table \({NAMES}\)(?: [01]+)*)"
)
NET = re.compile(rf"(?:input ({NAMES})\n)?((?:gate {NAME} {KIND}\n)+)start((?: {NAME})*)\n")
TALK = re.compile(rf"out((?: {NAME})*)\n((?:state(?: {NAME}>(?:[0-9]|1[01]))*\n)+)")


def kind_text(kind):
    if kind[0] == "held":
        return f"held {kind[2]} {'on' if kind[3] else 'off'} {kind_text(kind[1])}"
    if kind[0] == "table":
        rows = "".join(" " + "".join(str(int(value)) for value in row) for row in kind[2])
        return f"table ({' '.join(kind[1])}){rows}"
    return f"{kind[0]} {kind[1] if kind[0] in ('same', 'not') else ' '.join(kind[1])}"


def model_net_text(net):
    inputs, gates, start = net
    names = [*inputs, *(name for name, kind in gates)]
    text = f"input {' '.join(inputs)}\n" if inputs else ""
    for name, kind in gates:
        text += f"gate {name} {kind_text(kind)}\n"
    return text + "start" + "".join(f" {name}" for name, value in zip(names, start) if value) + "\n"


def model_talk_text(talk):
    text = "out" + "".join(f" {name}" for name in talk[0]) + "\n"
    return text + "".join("state" + "".join(f" {wire}>{number}" for wire, number in moves) + "\n" for moves in talk[1])


def kind_read(text, names):
    """The kind of a text that has the form of one, or None."""
    match = re.fullmatch(rf"held ({NAME}) (on|off) (.*)", text)
    if match:
        inner = kind_read(match[3], names)
        return inner and match[1] in names and ("held", inner, match[1], match[2] == "on") or None
    word, rest = text.split(" ", 1)
    if word in ("same", "not"):
        return (word, rest) if rest in names else None
    if word == "table":
        match = re.fullmatch(r"\((.*)\)(.*)", rest)
        wires = tuple(match[1].split())
        rows = match[2].split()
        if rows != sorted(set(rows)) or any(len(row) != len(wires) for row in rows) or len(wires) > 8:
            return None
        kind = (word, wires, tuple(tuple(sign == "1" for sign in row) for row in rows))
    else:
        wires = tuple(rest.split())
        kind = (word, wires)
        if len(wires) > 4 or len(wires) < (2 if word == "both" else 1):
            return None
    return kind if set(wires) <= set(names) and len(set(wires)) == len(wires) else None


def model_read_net(text):
    """The net that is written so, or None."""
    match = NET.fullmatch(text)
    if not match:
        return None
    inputs = (match[1] or "").split()
    gates = [line.split(" ", 2)[1:] for line in match[2].splitlines()]
    names = inputs + [name for name, kind in gates]
    on = match[3].split()
    if len(inputs) > 3 or len(gates) > 5 or len(set(names)) < len(names) or set(names) & set(WORDS):
        return None
    kinds = [kind_read(kind, names) for name, kind in gates]
    if None in kinds or on != [name for name in names if name in on]:
        return None
    return (tuple(inputs), tuple(zip(names[len(inputs):], kinds)), tuple(name in on for name in names))


def model_read_talk(net, text):
    """The talk for the net that is written so, or None."""
    match = TALK.fullmatch(text)
    if not match:
        return None
    outs = match[1].split()
    states = [[move.split(">") for move in line.split()[1:]] for line in match[2].splitlines()]
    wires = [[wire for wire, number in moves] for moves in states]
    if len(states) > 12 or any(len(set(names)) < len(names) for names in [outs, *wires]):
        return None
    if not set(outs) <= {name for name, kind in net[1]} or any(set(names) - {*net[0], *outs} for names in wires):
        return None
    told = tuple(tuple((wire, int(number)) for wire, number in moves) for moves in states)
    return (tuple(outs), told) if all(number < len(states) for moves in told for wire, number in moves) else None


SIGNS = "abcxyz  \n\n01239()>_-+.,\t\r\0AZ%\\'\"\u00e4\u0661\u00b2\u2028\u3000\ud800"


def spoilt_once(text, pick):
    """The text with a sign put in, taken out or exchanged, a stretch left out, turned about or told twice."""
    start = pick.below(len(text) + 1)
    end = min(len(text), start + 1 + pick.below(12))
    head, stretch, tail = text[:start], text[start:end], text[end:]
    sign = pick.one_of(SIGNS + text)
    return pick.one_of((
        head + sign + stretch + tail, head + stretch[1:] + tail, head + sign + stretch[1:] + tail, head + tail,
        head + stretch[::-1] + tail, head + stretch * 2 + tail,
    ))


def other_lines(text, pick):
    """The text with its lines in another order, or one of them left out, told twice, or ended otherwise."""
    lines = text.splitlines(keepends=True)
    place, other = pick.below(len(lines)), pick.below(len(lines))
    swapped = list(lines)
    swapped[place], swapped[other] = lines[other], lines[place]
    line = lines[place]
    return ["".join(changed) for changed in (
        swapped, reversed(lines), lines[:place] + lines[place + 1:], lines[:place] + [line] + lines[place:],
        lines + [line], [line] + lines, lines + lines, lines[:-1], lines[1:], lines + ["\n"], ["\n"] + lines,
        lines[:place] + ["\n"] + lines[place:], [text.rstrip("\n")], [text, " "], [" ", text],
        [text.replace("\n", "\r\n")],
        lines[:place] + [line[:-1] + " \n"] + lines[place + 1:], lines[:place] + [" " + line] + lines[place + 1:],
        lines[:place] + [line.replace(" ", "  ", 1)] + lines[place + 1:], [text.replace("\n", "\r")], [text.upper()],
        lines[:place] + [line.split(" ")[0].strip() + "\n"] + lines[place + 1:], [text.replace("\n", " \n")],
        lines[:place] + [" ".join(reversed(line.split())) + "\n"] + lines[place + 1:], [text.replace(" ", "\t")],
    )]
