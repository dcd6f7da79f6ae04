"""The calls: each takes the wave, the call's whole numbers and its list, and gives back what is answered."""

from graphwaves.ahead import course_of, end_of
from graphwaves.forest import chords_among, depths_from, heights_by, parents_by, ring_of, roots_by, windings_by
from graphwaves.graph import are_proper, edge_between, edges_told, is_walk
from graphwaves.states import FIRE, STATES, lean_between, walk_sum
from graphwaves.walks import best_sum, leans_by, speed_among

DONE = 0
OUT_OF_RANGE = -1
NOT_TOUCHING = -5
NO_CHORD = -5
NO_END = -6
NO_TURN = -7

MOST_CELLS = 16
MOST_GENERATIONS = 1000
LONGEST_WALK = 256
WIDEST_BALL = 16


def all_below(numbers, bound):
    """Tell whether every number is from 0 to the bound less one."""
    return all([0 <= number < bound for number in numbers])


def windings_of(wave):
    """Give each chord of the wave with its winding."""
    return windings_by(wave.edges, wave.neighbours, wave.states)


def lives(wave):
    """Tell whether some chord's winding isn't 0."""
    return any([winding != 0 for a, b, winding in windings_of(wave)])


def cells_within(wave, start, most):
    """Give the cells that can be reached in at most so many steps, the least first."""
    depths = depths_from(wave.neighbours, start)
    return [cell for cell, depth in enumerate(depths) if depth is not None and depth <= most]


def answer_graph(wave, numbers, row):
    n = numbers[0]
    if not 1 <= n <= MOST_CELLS or len(row) % 2 != 0 or not all_below(row, n):
        return [OUT_OF_RANGE]
    edges = edges_told(row)
    if not are_proper(edges):
        return [OUT_OF_RANGE]
    wave.take_graph(n, edges)
    return [DONE]


def answer_told(wave, numbers, row):
    told = [wave.n, len(wave.edges)]
    for a, b in wave.edges:
        told.extend([a, b])
    return told


def answer_kind(wave, numbers, row):
    if not all_below(numbers, FIRE + 1):
        return [OUT_OF_RANGE]
    wave.take_kind(numbers[0])
    return [DONE]


def answer_set(wave, numbers, row):
    if len(row) != wave.n or not all_below(row, STATES):
        return [OUT_OF_RANGE]
    wave.take_states(row)
    return [DONE]


def answer_config(wave, numbers, row):
    return [wave.n] + wave.states


def answer_run(wave, numbers, row):
    if not all_below(numbers, MOST_GENERATIONS + 1):
        return [OUT_OF_RANGE]
    return [wave.run(numbers[0])]


def answer_counts(wave, numbers, row):
    return [wave.n] + wave.counts


def answer_time(wave, numbers, row):
    return [wave.time]


def answer_lean(wave, numbers, row):
    if not all_below(numbers, wave.n):
        return [OUT_OF_RANGE]
    if not is_walk(wave.neighbours, numbers):
        return [NOT_TOUCHING]
    return [DONE, lean_between(wave.states[numbers[0]], wave.states[numbers[1]])]


def answer_walk(wave, numbers, row):
    if not 1 <= len(row) <= LONGEST_WALK or not all_below(row, wave.n):
        return [OUT_OF_RANGE]
    if not is_walk(wave.neighbours, row):
        return [NOT_TOUCHING]
    return [DONE, walk_sum(wave.states, row)]


def answer_heights(wave, numbers, row):
    for a, b, winding in windings_of(wave):
        if winding != 0:
            return [0, a, b, winding]
    return [1] + heights_by(parents_by(wave.neighbours), wave.states)


def answer_windings(wave, numbers, row):
    windings = windings_of(wave)
    told = [len(windings)]
    for a, b, winding in windings:
        told.extend([a, b, winding])
    return told


def answer_ring(wave, numbers, row):
    if not all_below(numbers, wave.n):
        return [OUT_OF_RANGE]
    edge = edge_between(numbers[0], numbers[1])
    parents = parents_by(wave.neighbours)
    if edge not in chords_among(wave.edges, parents):
        return [NO_CHORD]
    cells = ring_of(edge, parents)
    return [len(cells)] + cells


def answer_lives(wave, numbers, row):
    return [1 if lives(wave) else 0]


def answer_end(wave, numbers, row):
    if lives(wave):
        return [NO_END]
    return end_of(wave)


def answer_best(wave, numbers, row):
    if not all_below(numbers[:1], wave.n) or not all_below(numbers[1:], MOST_GENERATIONS + 1):
        return [OUT_OF_RANGE]
    return [best_sum(leans_by(wave.neighbours, wave.states), numbers[0], numbers[1])]


def answer_speed(wave, numbers, row):
    if not all_below(numbers, wave.n):
        return [OUT_OF_RANGE]
    return speed_among(leans_by(wave.neighbours, wave.states), cells_within(wave, numbers[0], wave.n))


def answer_course(wave, numbers, row):
    if not 1 <= numbers[0] <= MOST_GENERATIONS:
        return [OUT_OF_RANGE]
    return course_of(wave, numbers[0])


def answer_ball(wave, numbers, row):
    if not all_below(numbers[:1], wave.n) or not all_below(numbers[1:], WIDEST_BALL + 1):
        return [OUT_OF_RANGE]
    cells = cells_within(wave, numbers[0], numbers[1])
    return [len(cells)] + cells


def answer_parts(wave, numbers, row):
    return [wave.n] + roots_by(parents_by(wave.neighbours))


def answer_turn(wave, numbers, row):
    if not all_below(numbers, STATES):
        return [OUT_OF_RANGE]
    if wave.kind == FIRE:
        return [NO_TURN]
    wave.turn(numbers[0])
    return [DONE]


def answer_rename(wave, numbers, row):
    if sorted(row) != list(range(wave.n)):
        return [OUT_OF_RANGE]
    wave.rename(row)
    return [DONE]


ANSWERS = {
    0: answer_graph,
    1: answer_told,
    2: answer_kind,
    3: answer_set,
    4: answer_config,
    5: answer_run,
    6: answer_counts,
    7: answer_time,
    8: answer_lean,
    9: answer_walk,
    10: answer_heights,
    11: answer_windings,
    12: answer_ring,
    13: answer_lives,
    14: answer_end,
    15: answer_best,
    16: answer_speed,
    17: answer_course,
    18: answer_ball,
    19: answer_parts,
    20: answer_turn,
    21: answer_rename,
}


def answer_call(wave, number, numbers, row):
    """Answer the call of this number."""
    return ANSWERS[number](wave, numbers, row)
