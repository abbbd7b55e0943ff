"""Seeing: the talk that is seen of a net and a talk, and the first row of the talk that is never seen."""

from anywait.errors import TooBig
from anywait.faults import fault
from anywait.needs import ways_of
from anywait.nets import wire_names
from anywait.talks import MOST_STATES, checked_talk


def seen_talk(net, talk):
    if fault(net, talk) is not None:
        return None
    views = views_of(net, talk)
    groups = groups_of(views)
    number = max(groups) + 1
    if number > MOST_STATES:
        raise TooBig("the seen talk has too many states")
    firsts = [views[groups.index(group)] for group in range(number)]
    return (talk[0], tuple([moves_between(view, groups) for view in firsts]))


def undone(net, talk):
    checked_talk(net, talk)
    rows = {0: []}
    states = {0: 0}
    for number, view in enumerate(views_of(net, talk)):
        moves = dict(talk[1][states[number]])
        for wire in [name for name in wire_names(net) if name in moves]:
            if wire not in view:
                return rows[number] + [wire]
            rows.setdefault(view[wire], rows[number] + [wire])
            states.setdefault(view[wire], moves[wire])
    return None


# A view is all stands in which it may be behind a row that is seen. For each view, in order of the first rows that lead
# to them: the wires that may be seen next, in order, each with the number of the view that it leads to.
def views_of(net, talk):
    ways = ways_of(net, talk)
    seen = [name for name in wire_names(net) if name in net[0] + talk[0]]
    ahead = [with_unseen(ways, seen, [0])]
    numbers = {ahead[0]: 0}
    views = []
    while ahead:
        moves = {}
        for wire in seen:
            behind = view_behind(ways, seen, ahead[0], wire)
            if behind:
                if behind not in numbers:
                    numbers[behind] = len(numbers)
                    ahead.append(behind)
                moves[wire] = numbers[behind]
        views.append(moves)
        ahead.pop(0)
    return views


def view_behind(ways, seen, view, wire):
    return with_unseen(ways, seen, [ways[stand][wire] for stand in view if wire in ways[stand]])


# These stands, by their numbers, and all that come of them by changes that are not seen.
def with_unseen(ways, seen, numbers):
    met = {}
    ahead = list(numbers)
    while ahead:
        stand = ahead.pop()
        if stand not in met:
            met[stand] = True
            ahead.extend([behind for wire, behind in ways[stand].items() if wire not in seen])
    return tuple(sorted(met))


# For each view the number of its group. The groups fall apart until all of one have the same moves into the same
# groups, which is not sooner than it must be: so they are the fewest, and numbered as the first of their views are.
def groups_of(views):
    groups = [0 for view in views]
    number = 0
    while number < max(groups) + 1:
        number = max(groups) + 1
        groups = numbers_of([(group, moves_between(view, groups)) for group, view in zip(groups, views)])
    return groups


def moves_between(view, groups):
    return tuple([(wire, groups[behind]) for wire, behind in view.items()])


def numbers_of(things):
    numbers = {}
    for thing in things:
        numbers.setdefault(thing, len(numbers))
    return [numbers[thing] for thing in things]
