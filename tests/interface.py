"""The whole interface: each function, the parts that it takes and the error that each is refused with, in order.

Also what is a net, a talk and so on told a second time, and parts spoilt in every place.
"""

from anywait.errors import NoNet, NoNumber, NoRun, NoTalk, NoText, NoWaits
from anywait.faults import fault, is_paper, paper
from anywait.goings import gone_on
from anywait.joining import joined
from anywait.making import clash, net_of, settings
from anywait.mending import held, mended
from anywait.needs import needed
from anywait.nets import checked, waiting, wires
from anywait.seeing import seen_talk, undone
from anywait.stands import stand_behind, stands, steps
from anywait.talks import checked_talk, is_steady
from anywait.texts import net_text, read_net, read_talk, talk_text
from anywait.waits import pace, spoiling, timed
from tests.mend_model import put_on
from tests.model import begin, model_behind, shown, wires_of
from tests.samples import WORDS
from tests.text_model import model_net_text, model_read_net, model_read_talk, model_talk_text

NET, TALK = ("net", NoNet), ("talk", NoTalk)
FRAME = (("inputs", NoTalk), ("made talk", NoTalk), ("made start", NoTalk))
CALLS = (
    (checked, (NET,)), (wires, (NET,)), (waiting, (NET, ("setting", NoNet))), (checked_talk, (NET, TALK)),
    (is_steady, (NET, TALK)), (steps, (NET, TALK, ("stand", None))), (stands, (NET, TALK)),
    (stand_behind, (NET, TALK, ("run", NoRun))), (fault, (NET, TALK)), (paper, (NET, TALK)),
    (is_paper, (NET, TALK, ("paper", None))), (gone_on, (NET, TALK, ("run", NoRun), ("other run", NoRun))),
    (timed, (NET, TALK, ("waits", NoWaits), ("changes", NoNumber))), (spoiling, (NET, TALK)),
    (pace, (NET, TALK, ("waits", NoWaits))), (needed, (NET, TALK, ("wire", NoRun), ("so-manieth", NoNumber))),
    (settings, FRAME), (clash, FRAME), (net_of, FRAME), (held, (NET, ("points", NoTalk))), (mended, (NET, TALK)),
    (joined, (NET, ("other net", NoNet))), (seen_talk, (NET, TALK)), (undone, (NET, TALK)), (net_text, (NET,)),
    (read_net, (("net text", NoText),)), (talk_text, (NET, TALK)), (read_talk, (NET, ("talk text", NoText))),
)


def good_parts(net, talk):
    """For each name of a part a thing that is let by, the net having two inputs and outs alone as gates at the most."""
    names = wires_of(net)
    first = shown(net, begin(net))
    other = ((names[-1],), (("zz", ("same", names[-1])),), (net[2][-1], False))
    return {
        "net": net, "talk": talk, "setting": net[2], "stand": first, "run": [names[0]], "other run": [names[0]],
        "paper": stands(net, talk), "waits": tuple(range(2, len(names) + 2)), "changes": 5, "wire": names[-1],
        "so-manieth": 2, "inputs": net[0], "made talk": talk, "made start": net[2],
        "points": ((names[-1], names[0], True), (names[-1], names[-1], False)), "other net": other,
        "net text": model_net_text(net), "talk text": model_talk_text(talk),
    }


def is_tuple(thing, fewest, most):
    return type(thing) is tuple and fewest <= len(thing) <= most


def are_names(things, fewest, most):
    if not is_tuple(things, fewest, most) or any(type(thing) is not str for thing in things):
        return False
    fit = [set(thing) <= set("abcdefghijklmnopqrstuvwxyz") and 0 < len(thing) < 7 for thing in things]
    return all(fit) and len(set(things)) == len(things) and not set(things) & set(WORDS)


def are_values(thing, number):
    return is_tuple(thing, number, number) and {type(value) for value in thing} <= {bool}


def is_kind(kind, names, deep=0):
    if not is_tuple(kind, 2, 4) or type(kind[0]) is not str:
        return False
    sizes = {"same": 2, "not": 2, "and": 2, "or": 2, "both": 2, "table": 3, "held": 4}
    if sizes.get(kind[0]) != len(kind):
        return False
    if kind[0] == "held":
        way = type(kind[3]) is bool and type(kind[2]) is str and kind[2] in names
        return way and deep < 3 and is_kind(kind[1], names, deep + 1)
    told = (kind[1],) if kind[0] in ("same", "not") else kind[1]
    if not are_names(told, 2 if kind[0] == "both" else 1, 8 if kind[0] == "table" else 4) or set(told) - set(names):
        return False
    if kind[0] != "table":
        return True
    rows = kind[2]
    return type(rows) is tuple and all(are_values(row, len(told)) for row in rows) and sorted({*rows}) == [*rows]


def is_net(net):
    if not is_tuple(net, 3, 3) or not is_tuple(net[1], 1, 5) or not are_names(net[0], 0, 3):
        return False
    if not all(is_tuple(gate, 2, 2) for gate in net[1]):
        return False
    names = net[0] + tuple(gate[0] for gate in net[1])
    return are_names(names, 1, 8) and all(is_kind(gate[1], names) for gate in net[1]) and are_values(net[2], len(names))


def is_talk(net, talk):
    if not is_tuple(talk, 2, 2) or not are_names(talk[0], 0, 5) or set(talk[0]) - {name for name, kind in net[1]}:
        return False
    if not is_tuple(talk[1], 1, 12):
        return False
    for moves in talk[1]:
        if type(moves) is not tuple or not all(is_tuple(move, 2, 2) for move in moves):
            return False
        if not are_names(tuple(move[0] for move in moves), 0, 8) or {move[0] for move in moves} - {*net[0], *talk[0]}:
            return False
        if not all(type(move[1]) is int and 0 <= move[1] < len(talk[1]) for move in moves):
            return False
    return True


def is_run(net, talk, run):
    return type(run) is list and all(type(wire) is str for wire in run) and model_behind(net, talk, run) is not None


def are_points(net, points):
    if type(points) is not tuple or not all(is_tuple(point, 3, 3) for point in points):
        return False
    for gate, wire, way in points:
        if type(gate) is not str or type(wire) is not str or type(way) is not bool:
            return False
        if gate not in dict(net[1]) or wire not in wires_of(net):
            return False
    return put_on(net, points) is not None


def is_made(inputs, talk, start):
    """Whether these are parts that settings are told of."""
    if not is_tuple(talk, 2, 2) or not are_names(talk[0], 1, 5):
        return False
    frame = (inputs, tuple((name, ("same", name)) for name in talk[0]), start)
    return is_net(frame) and is_talk(frame, talk)


def is_good(name, thing, parts):
    """Whether a thing may stand for this part beside the other parts."""
    net, talk = parts["net"], parts["talk"]
    inputs, start = parts["inputs"], parts["made start"]
    number = len(net[2])
    looks = {
        "net": lambda: is_net(thing), "other net": lambda: is_net(thing), "talk": lambda: is_talk(net, thing),
        "setting": lambda: are_values(thing, number), "run": lambda: is_run(net, talk, thing),
        "other run": lambda: is_run(net, talk, thing), "points": lambda: are_points(net, thing),
        "waits": lambda: is_tuple(thing, number, number) and all(type(t) is int and 0 < t < 100 for t in thing),
        "changes": lambda: type(thing) is int and 0 <= thing <= 200,
        "wire": lambda: type(thing) is str and thing in wires_of(net),
        "so-manieth": lambda: type(thing) is int and 1 <= thing <= 20,
        "inputs": lambda: is_made(thing, talk, start), "made talk": lambda: is_made(inputs, thing, start),
        "made start": lambda: is_made(inputs, talk, thing),
        "net text": lambda: type(thing) is str and model_read_net(thing) is not None,
        "talk text": lambda: type(thing) is str and model_read_talk(net, thing) is not None,
    }
    return looks[name]()


def in_place_of(part):
    """Things that are put in the place of a part, whatever it is."""
    found = [None, (), [], "", "q", 0, 1, -1, True, False, 99, 201, (part,), [part], {}, 1.0]
    if isinstance(part, (tuple, list)):
        found += [list(part), tuple(part), part + part, part[:-1], part[1:], part[::-1], part + part[:1], str(part)]
        found += [type(part)(part) + type(part)((thing,)) for thing in ("q", None, True, 0)]
    elif isinstance(part, bool):
        found += [int(part), str(part), not part]
    elif isinstance(part, str):
        found += [part * 2, part[:-1], part.upper(), part.encode(), list(part), part + " ", part + "\n", tuple(part)]
    elif isinstance(part, int):
        found += [-part, str(part), float(part), bool(part), part + 100, part + 1, [part]]
    return found


def spoilt(thing):
    """The thing with another one in some place of it."""
    yield from in_place_of(thing)
    if isinstance(thing, (tuple, list)):
        for place, part in enumerate(thing):
            for other in spoilt(part):
                yield thing[:place] + type(thing)((other,)) + thing[place + 1:]
