"""The forest of a graph: parents, chords, heights and windings."""

from graphwaves.states import STATES, lean_between


def write_depths(neighbours, root, depths):
    """Write down for each cell of the root's part how many steps it is from the root."""
    depths[root] = 0
    found = [root]
    place = 0
    while place < len(found):
        cell = found[place]
        for other in neighbours[cell]:
            if depths[other] is None:
                depths[other] = depths[cell] + 1
                found.append(other)
        place += 1


def depths_by(neighbours):
    """Give for each cell how many steps it is from its part's root."""
    depths = [None for cell in neighbours]
    for cell in range(len(neighbours)):
        # Cells come in rising order, so the first one met of a part is its root.
        if depths[cell] is None:
            write_depths(neighbours, cell, depths)
    return depths


def parents_by(neighbours):
    """Give each cell's parent; a root, which has none, stands for itself."""
    depths = depths_by(neighbours)
    parents = []
    for cell, near in enumerate(neighbours):
        nearer = [other for other in near if depths[other] == depths[cell] - 1]
        parents.append(min(nearer, default=cell))
    return parents


def chords_among(edges, parents):
    """Give the edges that are not between a cell and its parent."""
    return [(a, b) for a, b in edges if parents[a] != b and parents[b] != a]


def height_of(cell, parents, states):
    """Give a cell's height, by the way from it up to its root."""
    height = 0
    place = cell
    while parents[place] != place:
        height += lean_between(states[parents[place]], states[place])
        place = parents[place]
    return states[place] + height


def heights_by(parents, states):
    """Give the heights of all cells."""
    return [height_of(cell, parents, states) for cell in range(len(parents))]


def winding_of(a, b, heights, states):
    """Give the winding of the chord a, b."""
    return (heights[a] + lean_between(states[a], states[b]) - heights[b]) // STATES
