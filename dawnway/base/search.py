"""Greatest and least numbers that are good, where no number behind one that is not good is."""


def greatest_good(is_good, low, high):
    """The greatest number up to `high` that is good; `low` is known to be good."""
    # Nothing bars the last number, or what is looked for is near the first one, as a rule: so the last one is
    # tried at once, and then the steps grow, and only then what is left is halved.
    if low == high or is_good(high):
        return high
    step = 1
    while low + step < high and is_good(low + step):
        low += step
        step *= 2
    high = min(high, low + step) - 1
    while low < high:
        mid = (low + high + 1) // 2
        if is_good(mid):
            low = mid
        else:
            high = mid - 1
    return low


def least_good(is_good, low, high):
    """The least number from `low` on that is good; `high` is known to be good."""
    while low < high:
        mid = (low + high) // 2
        if is_good(mid):
            high = mid
        else:
            low = mid + 1
    return low
