"""Smudges worked out in the most plain way: all cases, all tables, all lines."""

from table_hands import all_cells

from dimkeeper.smudges import Smudges


def can_come(task, smudges, state):
    return smudges.labels is None or task.world.label_of(state) in smudges.labels


def led_by_hand(task, cells, pages, smudges, case):
    """The cases to which a case leads, in order; None if it breaks or its cell lacks an entry."""
    state, page, kept, left = case
    entry = cells.get((page, task.sight_of(state)))
    if entry is None:
        return None
    deed, after = entry
    place = task.place_of((state, kept), deed)
    if place == "broken":
        return None
    cases = []
    for one in task.world.nexts(state, deed):
        cases.append((one, after, place, left))
        if can_come(task, smudges, state) and left != 0:
            cases += [(one, other, place, None if left is None else left - 1) for other in range(1, pages + 1) if other != after]
    return cases


def cases_by_hand(task, cells, pages, smudges):
    """The cases that come about, in order, and the first one that breaks or lacks, or None; with the moment of each."""
    cases = [(state, 1, kept, smudges.many) for state, kept in task.standing]
    moments = [0] * len(cases)
    for at, case in enumerate(cases):
        behind = led_by_hand(task, cells, pages, smudges, case)
        if behind is None:
            return cases, moments[at]
        for one in behind:
            if one not in cases:
                cases.append(one)
                moments.append(moments[at] + 1)
    return cases, None


def walked_by_hand(task, cells, pages, smudges, first, states, open_pages):
    """Where a play along states and pages stands, as a case, or None if there is none, or it ends ahead."""
    if not isinstance(states, tuple) or not isinstance(open_pages, tuple) or len(states) != len(open_pages) or not states:
        return None
    if any(type(page) is not int for page in open_pages) or open_pages[0] != 1 or (states[0], first) not in task.standing:
        return None
    case = (states[0], 1, first, smudges.many)
    for state, page in list(zip(states, open_pages))[1:]:
        behind = led_by_hand(task, cells, pages, smudges, case)
        found = [one for one in behind or [] if one[:2] == (state, page)]
        if not found:
            return None
        case = found[0]
    return case


def slips_by_hand(task, cells, pages, smudges, paper):
    """Whether a Slips is right."""
    case = walked_by_hand(task, cells, pages, smudges, paper.first, paper.states, paper.pages)
    return case is not None and led_by_hand(task, cells, pages, smudges, case) is None


def stays_by_hand(task, cells, pages, smudges, cases):
    """Whether cases are closed."""
    if not isinstance(cases, tuple) or len(set(cases)) < len(cases):
        return False
    for case in cases:
        if not isinstance(case, tuple) or len(case) != 4 or case[0] not in task.world or case[2] not in task.watch:
            return False
        if type(case[1]) is not int or (case[3] is not None if smudges.many is None else
                                        type(case[3]) is not int or not 0 <= case[3] <= smudges.many):
            return False
        behind = led_by_hand(task, cells, pages, smudges, case)
        if behind is None or any(one not in cases for one in behind):
            return False
    return all((state, 1, kept, smudges.many) in cases for state, kept in task.standing)


def some_stays(task, k, smudges):
    """Whether some table of k pages stays, by a trial of all."""
    return any(cases_by_hand(task, cells, k, smudges)[1] is None for cells in all_cells(task, k))


def whole_by_hand(task, k, lines, above=()):
    if len(lines) == 1 and lines[0][0] == above:
        return True
    if not lines or any(len(line[0]) <= len(above) or line[0][:len(above)] != above for line in lines):
        return False
    cells = {line[0][len(above)][:2] for line in lines}
    if len(cells) != 1:
        return False
    page, sight = cells.pop()
    if not 1 <= page <= k or sight not in task.blur.sights or (page, sight) in [row[:2] for row in above]:
        return False
    entries = [(page, sight, deed, after) for deed in task.world.deeds for after in range(1, k + 1)]
    parts = [[line for line in lines if line[0][len(above)] == entry] for entry in entries]
    return sum(map(len, parts)) == len(lines) and all(whole_by_hand(task, k, part, above + (entry,))
                                                      for part, entry in zip(parts, entries))


def line_is_right(task, k, smudges, line):
    """Whether a line ends well."""
    answers, first, states, pages = line
    cells = {row[:2]: row[2:] for row in answers}
    case = walked_by_hand(task, cells, k, smudges, first, states, pages)
    if case is None or (case[1], task.sight_of(case[0])) not in cells:
        return False
    return task.place_of((case[0], case[2]), cells[case[1], task.sight_of(case[0])][0]) == "broken"


def lines_are_right(task, k, smudges, lines):
    """Whether lines refuse k."""
    if not isinstance(lines, tuple):
        return False
    for line in lines:
        if not isinstance(line, tuple) or len(line) != 4 or not isinstance(line[0], tuple):
            return False
        for row in line[0]:
            if not isinstance(row, tuple) or len(row) != 4 or type(row[0]) is not int or type(row[3]) is not int:
                return False
            if not isinstance(row[1], str) or not isinstance(row[2], str):
                return False
    return whole_by_hand(task, k, list(lines)) and all(line_is_right(task, k, smudges, line) for line in lines)


def random_smudges(chance, task):
    """None, few, any number; at all labels, at some, at none, also at labels that no state shows."""
    labels = sorted(task.world.labels) + ["odd"]
    at = chance.choice([None, None, chance.sample(labels, chance.randint(0, len(labels)))])
    return Smudges(chance.choice([0, 1, 1, 2, 3, None]), at)
