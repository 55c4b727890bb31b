"""Readings of few pairs that, read again and again, break one watch, be it in a late round, and not another one."""

from dimkeeper.leastwatch import least_watch
from dimkeeper.orders import order_of
from dimkeeper.watches import Watch


class Rounds:
    """What rows of signs do to two watches, the first of which is not to break.

    Watch states are numbered; behind the last number stands the one of broken. What a row of signs does is the pair
    of the places to which it leads from each watch state of the first one, and of the second one.
    """

    def __init__(self, one, other, most):
        calm = least_watch(one)
        bad = least_watch(other)
        self.most = most
        self.last = (len(calm), len(bad))
        self.signs = different_signs(calm, bad)
        self.ways = ways_to_pairs(self.signs, self.last, most)
        self.starting = begun_by(self.ways, self.last)
        self.far = [distances(self.signs, self.last[0], state) for state in range(self.last[0])]

    def closing_pair(self, does, size):
        """The pair of watch states at which a ring of this size that does this begins, or None."""
        for state in lasting_numbers(does[0]):
            for depth, kept in self.starting[state]:
                if depth + size > self.most:
                    break
                if breaks_at_last(does[1], kept):
                    return state, kept
        return None

    def can_go_on(self, does, size):
        """Whether a longer ring that begins with signs which do this may be closed: it leads where it can be read."""
        calm = does[0]
        alive = [state for state in range(self.last[0]) if calm[state] != self.last[0]]
        for state in alive:
            left = self.most - size - (self.starting[state][0][0] if self.starting[state] else self.most)
            far = self.far[calm[state]]
            if left > 0 and any([far.get(back, left + 1) <= left for back in alive]):
                return True
        return False


def different_signs(calm, bad):
    """Pairs of a sign and what it does, each of which does something else."""
    signs = {}
    for label in calm.labels:
        for deed in calm.deeds:
            signs.setdefault((places_by(calm, label, deed), places_by(bad, label, deed)), (label, deed))
    return [(sign, does) for does, sign in signs.items()]


def places_by(watch, label, deed):
    """The number of the place to which a sign leads from each watch state, and from broken."""
    numbers = order_of([*watch.states, Watch.BROKEN])
    return tuple([numbers[watch.place_behind(state, label, deed)] for state in numbers])


def ways_to_pairs(signs, last, most):
    """The shortest row of fewer signs than most to each pair of numbers, unbroken in the first watch."""
    ways = {(0, 0): ()}
    met = [(0, 0)]
    at = 0
    while at < len(met) and len(ways[met[at]]) + 1 < most:
        state, kept = met[at]
        for sign, does in signs:
            pair = (does[0][state], does[1][kept])
            if pair[0] != last[0] and pair not in ways:
                ways[pair] = (*ways[met[at]], sign)
                met.append(pair)
        at += 1
    return ways


def begun_by(ways, last):
    """For each watch state of the first watch the pairs (length of a shortest way, watch state of the second one)."""
    begun = [[] for _ in range(last[0])]
    for pair in ways:
        begun[pair[0]].append((len(ways[pair]), pair[1]))
    return [sorted(row) for row in begun]


def distances(signs, broken, start):
    """How many signs lead at least from a watch state of the first watch to each one."""
    far = {start: 0}
    met = [start]
    at = 0
    while at < len(met):
        for _, does in signs:
            after = does[0][met[at]]
            if after != broken and after not in far:
                far[after] = far[met[at]] + 1
                met.append(after)
        at += 1
    return far


def lasting_numbers(leads):
    """The numbers, but the last one, from which what leads never comes to the last one."""
    broken = len(leads) - 1
    lasting = [number for number in range(broken) if leads[number] != broken]
    many = broken
    while len(lasting) < many:
        many = len(lasting)
        among = {number: True for number in lasting}
        lasting = [number for number in lasting if leads[number] in among]
    return lasting


def breaks_at_last(leads, number):
    """Whether what leads comes to the last number from this one."""
    for _ in leads:
        number = leads[number]
    return number == len(leads) - 1


def ring_of_rounds(one, other, most):
    """A reading of at most so many pairs, and the index of its ring, that breaks other and not one; None if there is
    none. One is settled."""
    rounds = Rounds(one, other, most)
    same = (tuple(range(rounds.last[0] + 1)), tuple(range(rounds.last[1] + 1)))
    # For each thing that a row of signs does, what a shortest such row does without its last sign, and this sign: two
    # rows that do the same are worth the same.
    ahead = {same: None}
    level = [same]
    for size in range(1, most + 1):
        longer = behind_level(rounds, ahead, level)
        for does in longer:
            pair = rounds.closing_pair(does, size)
            if pair is not None:
                return (*rounds.ways[pair], *signs_to(ahead, does)), len(rounds.ways[pair])
        level = [does for does in longer if rounds.can_go_on(does, size)]
    return None


def behind_level(rounds, ahead, level):
    """What rows with one sign more do that no row ahead does; ahead keeps how each is made."""
    longer = []
    for does in level:
        for sign, step in rounds.signs:
            after = (tuple([step[0][at] for at in does[0]]), tuple([step[1][at] for at in does[1]]))
            if after not in ahead:
                ahead[after] = (does, sign)
                longer.append(after)
    return longer


def signs_to(ahead, does):
    """The signs of a shortest row that does this."""
    signs = []
    while ahead[does] is not None:
        does, sign = ahead[does]
        signs.append(sign)
    return signs[::-1]
