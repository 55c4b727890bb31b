"""Short readings that, read again and again, break one watch and stay unbroken in another one, which is settled."""

from heapq import heappop, heappush

from dimkeeper.watches import Watch


def shorter_reading(calm, other, whole, ring):
    """This reading and the index of its ring, or a shorter one that breaks other and not calm, if one is found."""
    least, at = shortest_lasso(calm, other)
    told = [(whole, ring), (least, at), folded(whole, ring), folded(least, at)]
    return min(told, key=lambda pair: len(pair[0]))


def folded(reading, ring):
    """The same endless reading, told as short as can be."""
    loop = reading[ring:]
    sizes = [size for size in range(1, len(loop) + 1) if len(loop) % size == 0]
    loop = loop[:min([size for size in sizes if loop == loop[:size] * (len(loop) // size)])]
    begun = ring
    # A ring may as well begin earlier where what is ahead of it is what it ends with.
    while begun > 0 and reading[begun - 1] == loop[(begun - ring - 1) % len(loop)]:
        begun -= 1
    turn = (begun - ring) % len(loop)
    return (*reading[:begun], *loop[turn:], *loop[:turn]), begun


def shortest_lasso(calm, other):
    """The shortest reading that breaks other when it is read once and leads calm back to where its ring begins."""
    steps, ahead, depth = walked(calm, other)
    best = None
    for state in calm.states:
        begun = {node: many for node, many in depth.items() if node[0] == state}
        found = cheapest_walk(steps, begun, (state, Watch.BROKEN))
        if found is not None and (best is None or found[0] < best[0]):
            best = found
    loop = best[1]
    stem = []
    node = ahead[loop[0]]
    while node is not None:
        stem.append(node)
        node = ahead[node]
    nodes = stem[::-1] + loop
    return tuple([steps[node][after] for node, after in zip(nodes, nodes[1:])]), len(stem)


def walked(calm, other):
    """For each pair of places of both that is come to: the pairs behind it with their signs, the pair ahead of it,
    and how many signs lead to it."""
    met = [(calm.first, other.first)]
    steps = {}
    ahead = {met[0]: None}
    depth = {met[0]: 0}
    at = 0
    while at < len(met):
        node = met[at]
        behind = signs_behind_pair(calm, other, node)
        steps[node] = behind
        for after in behind:
            if after not in depth:
                ahead[after] = node
                depth[after] = depth[node] + 1
                met.append(after)
        at += 1
    return steps, ahead, depth


def signs_behind_pair(calm, other, node):
    """For each pair of places to which a pair leads, unbroken in calm, the first sign that does."""
    signs = {}
    for label in calm.labels:
        for deed in calm.deeds:
            after = (calm.place_of(node[0], label, deed), other.place_behind(node[1], label, deed))
            if after[0] != Watch.BROKEN and after not in signs:
                signs[after] = (label, deed)
    return signs


def cheapest_walk(steps, begun, goal):
    """The cost and the nodes of a cheapest walk of one step or more to the goal, or None if there is none.

    It begins at one of the nodes of begun, at the cost that is told there; each step costs 1.
    """
    queue = []
    # What is ahead of a node at which the walk begins is this node itself.
    ahead = {}
    for node, cost in begun.items():
        heappush(queue, (cost, node, node))
    while queue:
        cost, node, last = heappop(queue)
        if node in ahead:
            continue
        ahead[node] = last
        if goal in steps[node]:
            return cost + 1, walk_to(ahead, node, goal)
        for after in steps[node]:
            if after not in ahead:
                heappush(queue, (cost + 1, after, node))
    return None


def walk_to(ahead, node, goal):
    """The nodes of the walk by which this node was come to, and the goal behind it."""
    nodes = [goal, node]
    while ahead[node] != node:
        node = ahead[node]
        nodes.append(node)
    return nodes[::-1]
