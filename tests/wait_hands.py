"""Waits worked out in the most plain way: layer by layer from each moment that asks, all tables one by one."""

from common import random_task, random_watch
from table_hands import all_cells, ends_by_hand, how_many, list_by_hand, walk_by_hand

from dimkeeper.promises import anything
from dimkeeper.tasks import choices
from dimkeeper.waits import Wait


def behind_by_hand(task, cells, spot):
    """The spots behind a spot, None if its cell lacks an entry."""
    entry = cells.get((spot[1], task.sight_of(spot[0])))
    return None if entry is None else [(state, entry[1]) for state in task.world.nexts(spot[0], entry[0])]


def asks(task, wait, state):
    label = task.world.label_of(state)
    return wait.asked is None or label in wait.asked


def answers(task, wait, state):
    return task.world.label_of(state) in wait.answers


def delay_by_hand(task, cells, wait):
    """The delay of a table that serves, None if it has none."""
    walk, best = walk_by_hand(task, cells), 0
    for begun in walk:
        layer, many = {begun} if asks(task, wait, begun[0]) else set(), 1
        while layer:
            best = max([best] + [many for spot in layer if answers(task, wait, spot[0])])
            if many > len(walk) + 1:
                return None
            layer = {after for spot in layer if not answers(task, wait, spot[0])
                     for after in behind_by_hand(task, cells, spot)}
            many += 1
    return best


def heights_by_hand(task, cells, wait):
    """The heights in the order of the walk, of a table that has a delay."""
    walk = walk_by_hand(task, cells)
    waiting = {spot for spot in walk if asks(task, wait, spot[0])}
    for _ in walk:
        waiting |= {after for spot in waiting if not answers(task, wait, spot[0])
                    for after in behind_by_hand(task, cells, spot)}

    def height(spot):
        return 1 if answers(task, wait, spot[0]) else 1 + max(map(height, behind_by_hand(task, cells, spot)))
    return tuple((*spot, height(spot)) for spot in walk if spot in waiting)


def spots_by_hand(task, cells, states):
    """The spots of the first moments of a play along these states, or None; the last cell may lack an entry."""
    if not isinstance(states, tuple) or not states or states[0] not in [state for state, _ in task.standing]:
        return None
    spots = [(states[0], 1)]
    for state in states[1:]:
        found = [spot for spot in behind_by_hand(task, cells, spots[-1]) or [] if spot[0] == state]
        if not found:
            return None
        spots.append(found[0])
    return spots


def late_by_hand(task, cells, wait, states, many):
    """Whether these are the first moments of a play that are late for so many."""
    spots = spots_by_hand(task, cells, states)
    if spots is None:
        return False
    for at, (state, _) in enumerate(spots):
        if asks(task, wait, state):
            row = [answers(task, wait, one) for one, _ in spots[at:at + many]]
            if many == 0 or len(row) == many and not any(row):
                return True
    return False


def ring_by_hand(task, cells, wait, states, at):
    """Whether these are a ring that closes at this moment."""
    spots = spots_by_hand(task, cells, states)
    if spots is None or type(at) is not int or not 0 <= at < len(spots) - 1 or spots[at] != spots[-1]:
        return False
    shown = [answers(task, wait, state) for state, _ in spots]
    return not any(shown[at:]) and any(asks(task, wait, state) and not any(shown[one:]) for one, (state, _) in enumerate(spots))


def delay_is_right(task, cells, wait, paper):
    """Whether a Delay is right for a table that serves, by its words."""
    number = delay_by_hand(task, cells, wait)
    if number is None or type(paper.number) is not int or paper.number != number:
        return False
    told = heights_by_hand(task, cells, wait)
    if repr(paper.heights) != repr(told):
        return False
    if number == 0:
        return paper.play == ()
    spots = spots_by_hand(task, cells, paper.play)
    if spots is None or len(spots) < number or not asks(task, wait, spots[-number][0]):
        return False
    return [answers(task, wait, state) for state, _ in spots[-number:]] == [False] * (number - 1) + [True]


def moments_by_hand(task, cells):
    """The greatest number of moments that a table keeps, None if it holds."""
    ends = [end for end in ends_by_hand(task, cells) if end is not None]
    return min(len(states) - 1 for _, states in ends) if ends else None


def delays_by_hand(task, wait, k):
    """The delay of each table of the list of k."""
    forms = list_by_hand(task, k)
    return [(form, delay_by_hand(task, {row[:2]: row[2:] for row in form}, wait)) for form in forms]


def most_moments_by_hand(task, k):
    """The greatest number of moments that a table of at most k pages keeps, None if one holds."""
    told = [moments_by_hand(task, cells) for cells in all_cells(task, k)]
    return None if None in told else max(told)


def random_wait(chance, task):
    """All labels are asked, or some; labels that no state shows, and ones that ask and answer."""
    labels = sorted(task.world.labels) + ["odd"]
    asked = chance.choice([None, chance.sample(labels, chance.randint(1, len(labels)))])
    return Wait(asked, chance.sample(labels, chance.randint(1, max(1, len(labels) - 2))))


def waiting_task(chance, k, most=1300, **more):
    """A random task, often with many tables that hold, for which all tables of k pages can be tried."""
    while True:
        task = random_task(chance, **more)
        labels, deeds = task.watch.labels, task.watch.deeds
        how = chance.randint(0, 3)
        if how:
            watch = anything(labels, deeds) if how == 1 else random_watch(chance, labels, deeds, breaking=0.05)
            stands = {(state, chance.choice(watch.states)) for state, _ in task.standing}
            task = task.changed(watch=watch, standing=sorted(stands))
        if how_many(task, k) <= most and choices(task, k) <= most:
            return task
