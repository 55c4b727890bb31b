"""Whether a Serves, a Holds, a Handed and their denials are right."""

from dimkeeper.checks import is_integer, is_one_of, is_pair, is_within
from dimkeeper.closed import Broken, Holds, Lacks, Serves
from dimkeeper.handing import Dropped, Handed, Hands, check_handed
from dimkeeper.papers import is_called
from dimkeeper.walks import Walks, check_walked


def shows_serves(task, table, value):
    """Whether value is a right Serves or a right Lacks."""
    check_walked(task, table)
    if isinstance(value, Serves) and is_called(value, "Serves"):
        return are_spots(task, table, value.spots)
    return is_right_lacks(task, table, value)


def are_spots(task, table, spots):
    """Whether these spots, none twice, hold those at which plays begin, and lead to none but themselves."""
    if not isinstance(spots, tuple):
        return False
    if not all([is_pair(spot) and spot[0] in task.world and is_integer(spot[1]) for spot in spots]):
        return False
    walks = Walks(task, table)
    return are_closed(spots, walks.first_spots(), lambda spot: walks.spots_behind(spot))


def are_closed(things, firsts, leads):
    """Whether these things, none twice, hold the first ones, and all go on and lead to none but themselves."""
    among = {thing: True for thing in things}
    if len(among) < len(things) or not all([thing in among for thing in firsts]):
        return False
    behind = [leads(thing) for thing in things]
    return all([row is not None and all([thing in among for thing in row]) for row in behind])


def is_right_lacks(task, table, value):
    """Whether value is a Lacks with the states of a play that stops at its cell."""
    if not isinstance(value, Lacks) or not is_called(value, "Lacks") or not is_integer(value.page):
        return False
    states = value.states
    if not isinstance(states, tuple) or not states:
        return False
    walks = Walks(task, table)
    spot = (states[0], 1)
    if spot not in walks.first_spots():
        return False
    for state in states[1:]:
        behind = [after for after in walks.spots_behind(spot) or () if after[0] == state]
        if not behind:
            return False
        spot = behind[0]
    return walks.spots_behind(spot) is None and walks.cell_at(spot) == (value.page, value.sight)


def shows_holds(task, table, value):
    """Whether value is a right Holds, a right Lacks or a right Broken."""
    check_walked(task, table)
    if isinstance(value, Holds) and is_called(value, "Holds"):
        return are_triples(task, table, value.triples)
    if isinstance(value, Broken) and is_called(value, "Broken"):
        return is_right_broken(task, table, value.first, value.states)
    return is_right_lacks(task, table, value)


def are_triples(task, table, triples):
    """Whether these triples, none twice, are closed."""
    if not isinstance(triples, tuple) or not all([is_triple(task, triple) for triple in triples]):
        return False
    walks = Walks(task, table)
    numbers = [(walks.steps.number_of((state, kept)), page) for state, page, kept in triples]
    return are_closed(numbers, walks.first_triples(), lambda triple: walks.triples_behind(triple))


def is_triple(task, value):
    """Whether a value is a state, an integer and a watch state."""
    if not isinstance(value, tuple) or len(value) != 3:
        return False
    return value[0] in task.world and is_integer(value[1]) and value[2] in task.watch


def is_right_broken(task, table, first, states):
    """Whether the play along these states begins with this watch state and is broken at its last moment."""
    if not isinstance(states, tuple) or not states:
        return False
    if not is_one_of(first, [kept for state, kept in task.standing if state == states[0]]):
        return False
    walks = Walks(task, table)
    triple = (walks.steps.number_of((states[0], first)), 1)
    for state in states[1:]:
        behind = [after for after in walks.triples_behind(triple) or () if walks.told(after)[0] == state]
        if not behind:
            return False
        triple = behind[0]
    # It stops or breaks at the last one; that it breaks is left, if there is an entry.
    return walks.triples_behind(triple) is None and walks.cell_at(walks.told(triple)) in table


def shows_handed(task, tables, handings, value):
    """Whether value is a right Handed or a right Dropped, of any length."""
    check_handed(task, tables, handings)
    hands = Hands(task, tables, handings)
    if isinstance(value, Handed) and is_called(value, "Handed"):
        return is_right_handed(task, hands, value.closed)
    if isinstance(value, Dropped) and is_called(value, "Dropped"):
        return is_right_dropped(task, hands, value)
    return False


def is_right_handed(task, hands, rows):
    """Whether these rows hold the first ones and all that can come next, and none of them breaks or stops."""
    if not isinstance(rows, tuple):
        return False
    if not all([isinstance(row, tuple) and len(row) == 4 for row in rows]):
        return False
    if not all([is_within(row[0], 0, len(hands.tables) - 1) and is_triple(task, row[1:]) for row in rows]):
        return False
    cases = [(index, page, hands.steps.number_of((state, kept))) for index, state, page, kept in rows]
    return are_closed(cases, [(0, 1, number) for number in hands.steps.begun()], lambda case: led_to(hands, case))


def led_to(hands, case):
    """The cases to which the entry of a case and its handings lead; None if it breaks or stops."""
    behind = hands.behind(case)
    return None if behind is None else [*hands.taken(case), *behind]


def is_right_dropped(task, hands, value):
    """Whether value tells a play with handings that breaks or stops at the last moment, and at none ahead."""
    states, places = value.states, value.places
    if not isinstance(states, tuple) or not isinstance(places, tuple) or len(states) != len(places) or not states:
        return False
    if not all([are_integers(place) for place in places]):
        return False
    if not is_one_of(value.first, [kept for state, kept in task.standing if state == states[0]]):
        return False
    open_place = (0, 1)
    number = hands.steps.number_of((states[0], value.first))
    for state, place in zip(states[1:], places):
        if place not in hands.all_taken(open_place):
            return False
        reached = hands.behind((place[0], place[1], number)) or ()
        behind = [case for case in reached if hands.steps.stand_of(case[2])[0] == state]
        if not behind:
            return False
        open_place = behind[0][:2]
        number = behind[0][2]
    last = places[-1]
    return last in hands.all_taken(open_place) and hands.behind((last[0], last[1], number)) is None


def are_integers(pair):
    """Whether a value is a tuple of two integers."""
    return isinstance(pair, tuple) and len(pair) == 2 and is_integer(pair[0]) and is_integer(pair[1])
