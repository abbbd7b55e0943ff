"""The document's words on waits and needs told a second time: time goes on by one, and steps grow older."""

from tests.model import begin, model_behind, model_fault, model_steps, step_to, wires_of


def snapshots(net, talk, waits):
    """At the beginning and behind each change: the changes until then, how it goes on, and what comes again."""
    lengths = dict(zip(wires_of(net), waits))
    stand, time, changes = begin(net), 0, ()
    ages = {wire: 0 for wire in model_steps(net, talk, stand)}
    while ages:
        yield changes, "on", (stand, tuple(sorted((wire, lengths[wire] - age) for wire, age in ages.items())))
        ripe = [wire for wire in wires_of(net) if ages.get(wire, -1) >= lengths[wire]]
        while not ripe:
            time += 1
            ages = {wire: age + 1 for wire, age in ages.items()}
            ripe = [wire for wire in wires_of(net) if ages.get(wire, -1) >= lengths[wire]]
        changes += ((time, ripe[0]),)
        stand = step_to(talk, stand, ripe[0], net)
        if stand is None:
            yield changes, "unasked", None
            return
        del ages[ripe[0]]
        ages = {wire: ages.get(wire, 0) for wire in model_steps(net, talk, stand)}
    yield changes, "end", None


def model_timed(net, talk, waits, number):
    for changes, word, rest in snapshots(net, talk, waits):
        if len(changes) == number or word != "on":
            break
    return (list(changes), word)


def model_pace(net, talk, waits, most=2000):
    """The pace, None, or the text late, if it has not come again within so many changes."""
    seen = []
    for changes, word, rest in snapshots(net, talk, waits):
        if word != "on":
            return None
        if rest in seen:
            head = seen.index(rest)
            wires = [wire for time, wire in changes[head:]]
            times = [0] + [time for time, wire in changes]
            return (head, times[-1] - times[head], [wires.count(name) for name in wires_of(net)])
        if len(changes) == most:
            return "late"
        seen.append(rest)


def steps_along(net, talk, run):
    """The steps at the beginning of a run and behind each of its changes but the last."""
    return [model_steps(net, talk, model_behind(net, talk, run[:number])) for number in range(len(run))]


def came_behind(free, run, number):
    """Behind how many changes the wire of this one had last come to be a step, these being the steps along."""
    wire, first = run[number], number
    while first > 0 and wire in free[first - 1] and run[first - 1] != wire:
        first -= 1
    return first


def model_spoiling(net, talk):
    found = model_fault(net, talk)
    if found is None:
        return None
    run = found[1]
    free = steps_along(net, talk, run)
    return [(wire, number + 1 - came_behind(free, run, number)) for number, wire in enumerate(run)]


def model_needed(net, talk, wire, number):
    """Carries the least counts of all wires along every step until none is lessened any more."""
    names = wires_of(net)
    best = {(begin(net), 0): [0] * len(names)}
    ahead = list(best)
    ends = []
    while ahead:
        stand, done = place = ahead.pop()
        for step in model_steps(net, talk, stand):
            behind = step_to(talk, stand, step, net)
            if behind is None:
                continue
            if step == wire and done == number - 1:
                ends.append(place)
                continue
            counts = [count + (name == step) for name, count in zip(names, best[place])]
            place_behind = (behind, done + (step == wire))
            known = best.get(place_behind, counts)
            least = [min(pair) for pair in zip(counts, known)]
            if best.get(place_behind) != least:
                best[place_behind] = least
                ahead.append(place_behind)
    return [min(counts) for counts in zip(*(best[place] for place in ends))] if ends else None
