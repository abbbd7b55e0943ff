"""Nets and talks with their wires named otherwise."""

from tests.model import wires_of

# Their letters stand in another order than the wires do, and some are words that answers have, or long ones.
OTHER_NAMES = ("zz", "taken", "stuck", "inputs", "end", "ga", "abcdef", "b")
TURNED = tuple(reversed(OTHER_NAMES))


def named_otherwise(thing, names):
    """A net, a talk or an answer with other names in the place of the wires; words of kinds are no names."""
    if isinstance(thing, (tuple, list)):
        return type(thing)(named_otherwise(part, names) for part in thing)
    return names.get(thing, thing) if isinstance(thing, str) else thing


def told_otherwise(found, names):
    """A fault, which begins with a word that may be a name too."""
    return None if found is None else found[:1] + named_otherwise(found[1:], names)


def namings(net):
    """Other names for the wires of a net: new ones, and its own ones exchanged."""
    wires = wires_of(net)
    return [
        dict(zip(wires, OTHER_NAMES)), dict(zip(wires, TURNED)), dict(zip(wires, reversed(wires))),
        dict(zip(wires, wires[1:] + wires[:1])),
    ]
