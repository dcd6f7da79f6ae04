"""Walks with the greatest sums: of so many steps at most, and closed ones for each of their steps."""

from graphwaves.states import lean_between


def leans_by(neighbours, states):
    """Give for each cell its neighbours, each with the lean to it."""
    leans = []
    for cell, near in enumerate(neighbours):
        leans.append([(other, lean_between(states[cell], states[other])) for other in near])
    return leans


def can_exceed(total, near, sums):
    """Tell whether a step to a neighbour, and from there a walk with the sum that stands for it, come to more."""
    for other, lean in near:
        if lean + sums[other] > total:
            return True
    return False


def best_sum(leans, start, most):
    """Give the greatest sum of a walk that begins at the start and has at most so many steps."""
    sums = [0 for near in leans]
    for steps in range(most):
        # The last step of a walk adds at most 1: so with one step more a greatest sum grows by 1, or not at all.
        longer = [total + 1 if can_exceed(total, near, sums) else total for total, near in zip(sums, leans)]
        if longer == sums:
            break
        sums = longer
    return sums[start]


def sums_a_step_on(leans, sums):
    """Give for each last cell the greatest sum of a walk that is a step longer than the walks with these sums."""
    longer = {}
    for cell in sums:
        for other, lean in leans[cell]:
            if other not in longer or sums[cell] + lean > longer[other]:
                longer[other] = sums[cell] + lean
    return longer


def common_divisor(a, b):
    """Give the greatest number that divides both."""
    while b != 0:
        rest = a % b
        a = b
        b = rest
    return a


def speed_among(leans, cells):
    """Give the greatest sum for each step of a closed walk through these cells, as a fraction in lowest terms."""
    total = 0
    steps = 1
    for start in cells:
        sums = {start: 0}
        for length in range(1, len(leans) + 1):
            sums = sums_a_step_on(leans, sums)
            if start in sums and sums[start] * steps > total * length:
                total = sums[start]
                steps = length
    divisor = common_divisor(total, steps)
    return [total // divisor, steps // divisor]
