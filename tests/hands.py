"""Ranks, covers and foes worked out in the most plain way, to hold the program against."""

from test_views import fault_by_hand, met_by_hand, next_by_hand, splits_by_hand


def parts_by_hand(task, view, deed):
    """The views behind a deed, or None if it breaks."""
    if fault_by_hand(task, view, deed) is not None:
        return None
    return [part for _, part in splits_by_hand(task, next_by_hand(task, view, deed))]


def ranks_by_hand(task, views=None):
    """The rank of each view that comes about from these on, None for held ones."""
    met = list(views) if views is not None else met_by_hand(task)
    for view in met:
        for deed in task.world.deeds:
            met += [part for part in parts_by_hand(task, view, deed) or [] if part not in met]
    parts = {(view, deed): parts_by_hand(task, view, deed) for view in met for deed in task.world.deeds}
    ranks = {}
    for rank in range(1, len(met) + 2):
        lost = [view for view in met if view not in ranks and all(
            parts[view, deed] is None or any(ranks.get(part, rank) < rank for part in parts[view, deed])
            for deed in task.world.deeds)]
        for view in lost:
            ranks[view] = rank
    return {view: ranks.get(view) for view in met}


def held_by_hand(task, ranks):
    pages, entries = [task.standing], []
    for page in pages:
        for sight, part in splits_by_hand(task, page):
            for deed in task.world.deeds:
                parts = parts_by_hand(task, part, deed)
                if parts is not None and all(ranks[one] is None for one in parts):
                    break
            after = next_by_hand(task, part, deed)
            if after not in pages:
                pages.append(after)
            entries.append((pages.index(page) + 1, sight, deed, pages.index(after) + 1))
    return pages, entries


def lost_by_hand(task, ranks):
    begun = [part for _, part in splits_by_hand(task, task.standing)]
    number = min(ranks[view] for view in begun if ranks[view] is not None)
    met, ranked = [next(view for view in begun if ranks[view] == number)], []
    for view in met:
        replies = []
        for deed in task.world.deeds:
            fault = fault_by_hand(task, view, deed)
            if fault is None:
                splits = splits_by_hand(task, next_by_hand(task, view, deed))
                least = min(ranks[part] for _, part in splits if ranks[part] is not None)
                sight, part = next((sight, part) for sight, part in splits if ranks[part] == least)
                replies.append(sight)
                met += [part] if part not in met else []
            else:
                replies.append(fault)
        ranked.append((view, ranks[view], replies))
    kept = []
    met = list(begun) if number > 1 else []
    for view in met:
        moments = ranks[view] - 1 if ranks[view] is not None and ranks[view] < number else number - 1
        for deed in task.world.deeds:
            parts = parts_by_hand(task, view, deed)
            if parts is not None and all(ranks[part] is None or ranks[part] >= moments for part in parts):
                break
        kept.append((view, moments, deed))
        if moments >= 2:
            for part in parts:
                met += [part] if part not in met else []
    return number, ranked, kept
