"""Nets: their form, their wires, and which gates wait in a setting."""

from anywait.errors import NoNet

LETTERS = "abcdefghijklmnopqrstuvwxyz"
LONGEST_NAME = 6
WORDS = (
    "input", "gate", "start", "out", "state", "same", "not", "and", "or", "both", "held", "table", "on", "off",
)
MOST_INPUTS = 3
MOST_GATES = 5
MOST_WIRES = 4
MOST_TABLE_WIRES = 8
DEEPEST_HELD = 3


def checked(net):
    if not is_net(net):
        raise NoNet("this is no net")
    return net


def wires(net):
    return wire_names(checked(net))


def waiting(net, setting):
    names = wires(net)
    if not is_row(setting, len(names)):
        raise NoNet("this is no setting of the net")
    return waiting_gates(net, setting)


def is_net(net):
    if not is_tuple(net, 3, 3) or not has_parts(net):
        return False
    names = wire_names(net)
    if not all([is_name(name) for name in names]) or not are_unlike(names):
        return False
    return all([is_kind(kind, names, 0) for name, kind in net[1]]) and is_row(net[2], len(names))


def has_parts(net):
    if not is_tuple(net[0], 0, MOST_INPUTS) or not is_tuple(net[1], 1, MOST_GATES):
        return False
    return all([is_tuple(gate, 2, 2) for gate in net[1]])


def is_tuple(thing, fewest, most):
    return isinstance(thing, tuple) and fewest <= len(thing) <= most


# True and False are whole numbers to Python, but none here.
def is_number(thing, least, most):
    return isinstance(thing, int) and not isinstance(thing, bool) and least <= thing <= most


def is_name(thing):
    if not isinstance(thing, str) or not 1 <= len(thing) <= LONGEST_NAME:
        return False
    return all([letter in LETTERS for letter in thing]) and thing not in WORDS


def are_unlike(names):
    return all([names.count(name) == 1 for name in names])


# One True or False for each of so many wires: a setting, or a row of a table.
def is_row(thing, number):
    return is_tuple(thing, number, number) and all([isinstance(value, bool) for value in thing])


# Things of any kind may stand where a wire is due: only texts are compared.
def is_wire(thing, names):
    return isinstance(thing, str) and thing in names


def are_wires(things, names, fewest, most):
    if not is_tuple(things, fewest, most):
        return False
    return all([is_wire(thing, names) for thing in things]) and are_unlike(things)


def are_rows(things, number):
    if not isinstance(things, tuple) or not all([is_row(thing, number) for thing in things]):
        return False
    return all([one < other for one, other in zip(things, things[1:])])


# The depth is asked ahead of going on, so that no nesting, however deep, is walked to its end.
def is_kind(kind, names, depth):
    if not is_tuple(kind, 2, 4) or not isinstance(kind[0], str):
        return False
    word = kind[0]
    parts = len(kind)
    if word in ("same", "not"):
        return parts == 2 and is_wire(kind[1], names)
    if word in ("and", "or"):
        return parts == 2 and are_wires(kind[1], names, 1, MOST_WIRES)
    if word == "both":
        return parts == 2 and are_wires(kind[1], names, 2, MOST_WIRES)
    if word == "table":
        return parts == 3 and are_wires(kind[1], names, 1, MOST_TABLE_WIRES) and are_rows(kind[2], len(kind[1]))
    if word == "held":
        return parts == 4 and depth < DEEPEST_HELD and is_held(kind, names, depth + 1)
    return False


def is_held(kind, names, depth):
    return is_kind(kind[1], names, depth) and is_wire(kind[2], names) and isinstance(kind[3], bool)


def wire_names(net):
    return list(net[0]) + [gate[0] for gate in net[1]]


# Without a look at the net's form: for callers that have checked it.
def waiting_gates(net, setting):
    values = dict(zip(wire_names(net), setting))
    return [name for name, kind in net[1] if told(kind, values[name], values) != values[name]]


def told(kind, own, values):
    word = kind[0]
    if word == "same":
        return values[kind[1]]
    if word == "not":
        return not values[kind[1]]
    if word == "held":
        return told_held(kind, own, values)
    row = tuple([values[name] for name in kind[1]])
    if word == "and":
        return all(row)
    if word == "or":
        return any(row)
    if word == "table":
        return row in kind[2]
    return all(row) or (own and any(row))


def told_held(kind, own, values):
    inner = told(kind[1], own, values)
    meets = values[kind[2]] == inner
    return inner if meets == kind[3] else own
