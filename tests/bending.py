"""Parts of papers, changed, left out, doubled, put elsewhere or of another kind."""


def places(value, way=()):
    """The ways to all places within tuples."""
    yield way
    if isinstance(value, tuple):
        for at, part in enumerate(value):
            yield from places(part, way + (at,))


def part_at(value, way):
    for at in way:
        value = value[at]
    return value


def put(value, way, part):
    if not way:
        return part
    return value[:way[0]] + (put(value[way[0]], way[1:], part),) + value[way[0] + 1:]


def bent(chance, parts, others):
    """The parts with one place bent; others are values that may be put there."""
    ways = [way for way in places(parts) if way]
    way = chance.choice(ways)
    part = part_at(parts, way)
    how = chance.randint(0, 7)
    if how == 0:
        return put(parts, way, chance.choice(others))
    if how == 1:
        return put(parts, way, part_at(parts, chance.choice(ways)))
    if how == 2 and type(part) is int:
        return put(parts, way, chance.choice([part + 1, part - 1, True, str(part), float(part), None]))
    if how == 3 and isinstance(part, tuple):
        return put(parts, way, part[::-1])
    if how == 4 and isinstance(part, tuple) and part:
        at = chance.randrange(len(part))
        return put(parts, way, part[:at] + part[at + 1:])
    if how == 5 and isinstance(part, tuple) and part:
        at = chance.randrange(len(part))
        return put(parts, way, part[:at] + (part[at],) + part[at:])
    if how == 6 and isinstance(part, tuple):
        at = chance.randint(0, len(part))
        return put(parts, way, part[:at] + (chance.choice(others),) + part[at:])
    if how == 7 and isinstance(part, tuple):
        told = list(part)
        chance.shuffle(told)
        return put(parts, way, tuple(told))
    return bent(chance, parts, others)
