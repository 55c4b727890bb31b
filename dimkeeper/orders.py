"""Orders: places of names, what is made first, what comes about."""

from dimkeeper.errors import Twice


def order_of(names):
    """The place of each name, by the name."""
    return {name: at for at, name in enumerate(names)}


def each_once(names):
    """The tuple of the names, each once, as they come first."""
    return tuple({name: True for name in names})


def refuse_twice(names):
    """Raises Twice with the first name that is equal to one ahead of it."""
    seen = set()
    for name in names:
        if name in seen:
            raise Twice(name)
        seen.add(name)


def come_about(firsts, leads):
    """The things that come about, as they are met: leads tells to which ones a thing leads."""
    met = list(each_once(firsts))
    seen = {thing: True for thing in met}
    at = 0
    while at < len(met):
        for thing in leads(met[at]):
            if thing not in seen:
                seen[thing] = True
                met.append(thing)
        at += 1
    return met
