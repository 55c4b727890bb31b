"""From where an endless path begins."""


def lasting(leads):
    """The keys of a dict from which some path goes on for ever; it tells for each key to which ones that leads."""
    alive = list(leads)
    while True:
        among = {key: True for key in alive}
        kept = [key for key in alive if any([after in among for after in leads[key]])]
        if len(kept) == len(alive):
            return kept
        alive = kept
