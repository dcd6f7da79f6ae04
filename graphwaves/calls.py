"""The calls: each takes the wave, the call's whole numbers and its list, and gives back what is answered."""

from graphwaves.forest import chords_among, heights_by, parents_by, winding_of
from graphwaves.graph import are_proper, edges_told, is_walk
from graphwaves.states import FIRE, STATES, lean_between, walk_sum

DONE = 0
OUT_OF_RANGE = -1
NOT_TOUCHING = -5

MOST_CELLS = 16
MOST_GENERATIONS = 1000
LONGEST_WALK = 256


def all_below(numbers, bound):
    """Tell whether every number is from 0 to the bound less one."""
    return all([0 <= number < bound for number in numbers])


def answer_graph(wave, numbers, row):
    n = numbers[0]
    if not 1 <= n <= MOST_CELLS or len(row) % 2 != 0 or not all_below(row, n):
        return [OUT_OF_RANGE]
    edges = edges_told(row)
    if not are_proper(edges):
        return [OUT_OF_RANGE]
    wave.take_graph(n, edges)
    return [DONE]


def answer_told(wave, numbers, row):
    told = [wave.n, len(wave.edges)]
    for a, b in wave.edges:
        told.extend([a, b])
    return told


def answer_kind(wave, numbers, row):
    if not all_below(numbers, FIRE + 1):
        return [OUT_OF_RANGE]
    wave.take_kind(numbers[0])
    return [DONE]


def answer_set(wave, numbers, row):
    if len(row) != wave.n or not all_below(row, STATES):
        return [OUT_OF_RANGE]
    wave.take_states(row)
    return [DONE]


def answer_config(wave, numbers, row):
    return [wave.n] + wave.states


def answer_run(wave, numbers, row):
    if not all_below(numbers, MOST_GENERATIONS + 1):
        return [OUT_OF_RANGE]
    return [wave.run(numbers[0])]


def answer_counts(wave, numbers, row):
    return [wave.n] + wave.counts


def answer_time(wave, numbers, row):
    return [wave.time]


def answer_lean(wave, numbers, row):
    if not all_below(numbers, wave.n):
        return [OUT_OF_RANGE]
    if not is_walk(wave.neighbours, numbers):
        return [NOT_TOUCHING]
    return [DONE, lean_between(wave.states[numbers[0]], wave.states[numbers[1]])]


def answer_walk(wave, numbers, row):
    if not 1 <= len(row) <= LONGEST_WALK or not all_below(row, wave.n):
        return [OUT_OF_RANGE]
    if not is_walk(wave.neighbours, row):
        return [NOT_TOUCHING]
    return [DONE, walk_sum(wave.states, row)]


def answer_heights(wave, numbers, row):
    parents = parents_by(wave.neighbours)
    heights = heights_by(parents, wave.states)
    for a, b in chords_among(wave.edges, parents):
        winding = winding_of(a, b, heights, wave.states)
        if winding != 0:
            return [0, a, b, winding]
    return [1] + heights


ANSWERS = {
    0: answer_graph,
    1: answer_told,
    2: answer_kind,
    3: answer_set,
    4: answer_config,
    5: answer_run,
    6: answer_counts,
    7: answer_time,
    8: answer_lean,
    9: answer_walk,
    10: answer_heights,
}


def answer_call(wave, number, numbers, row):
    """Answer the call of this number."""
    return ANSWERS[number](wave, numbers, row)
