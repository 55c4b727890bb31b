"""Paths through layers."""


def first_path(layers, leads):
    """The first path with one thing of each layer, each but the first led to by the one ahead of it, or None.

    The things of each layer are in order, and of two paths the one with the earlier thing where they first
    differ comes first. leads tells, for the place of a layer and a thing of it, to which things it leads.
    """
    alive = [{thing: True for thing in layers[-1]}]
    for at in reversed(range(len(layers) - 1)):
        ahead = {thing: True for thing in layers[at] if any([after in alive[-1] for after in leads(at, thing)])}
        alive.append(ahead)
    alive = alive[::-1]
    if not alive[0]:
        return None
    path = [list(alive[0])[0]]
    for at in range(len(layers) - 1):
        behind = {thing: True for thing in leads(at, path[-1])}
        path.append([thing for thing in alive[at + 1] if thing in behind][0])
    return tuple(path)
