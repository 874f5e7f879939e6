"""What comes of many amounts of one size, one after another."""


def repeated(rule, withheld, size, many):
    """Return the tuple (withheld, given, peak) behind many amounts of size, where so much is withheld at first."""
    # As no rule gives multiples of more than 6, it leaves less than 6 whenever it gives
    # something: so what is withheld just behind that comes again soon, and turns can be skipped.
    seen = {}
    left, total, peak = many, 0, withheld
    steps = steps_to_give(rule, withheld, size)
    while left >= steps:
        peak = max(peak, withheld + (steps - 1) * size)
        amount = withheld + steps * size
        withheld = rule.rest(amount)
        left, total = left - steps, total + amount - withheld
        if withheld in seen:
            left_then, total_then = seen[withheld]
            turns = left // (left_then - left)
            left, total = left - turns * (left_then - left), total + turns * (total - total_then)
        else:
            seen[withheld] = (left, total)
        steps = steps_to_give(rule, withheld, size)
    if left > 0:
        peak = max(peak, withheld + (left - 1) * size)
    return (withheld + left * size, total, peak)


def steps_to_give(rule, withheld, size):
    """Return the number of amounts with the last of which the rule gives something."""
    return (rule.threshold - withheld + size - 1) // size
