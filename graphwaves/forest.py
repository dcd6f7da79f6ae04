"""The forest of a graph: parents, chords, heights and windings."""

from graphwaves.states import STATES, lean_between, walk_sum


def write_depths(neighbours, start, depths):
    """Write down for each cell of the start's part how many steps it is from the start."""
    depths[start] = 0
    found = [start]
    place = 0
    while place < len(found):
        cell = found[place]
        for other in neighbours[cell]:
            if depths[other] is None:
                depths[other] = depths[cell] + 1
                found.append(other)
        place += 1


def depths_from(neighbours, cell):
    """Give for each cell how many steps it is from this one; None where there is no way."""
    depths = [None for other in neighbours]
    write_depths(neighbours, cell, depths)
    return depths


def depths_by(neighbours):
    """Give for each cell how many steps it is from its part's root."""
    depths = [None for cell in neighbours]
    for cell in range(len(neighbours)):
        # Cells come in rising order, so the first one met of a part is its root.
        if depths[cell] is None:
            write_depths(neighbours, cell, depths)
    return depths


def parents_by(neighbours):
    """Give each cell's parent; a root, which has none, stands for itself."""
    depths = depths_by(neighbours)
    parents = []
    for cell, near in enumerate(neighbours):
        nearer = [other for other in near if depths[other] == depths[cell] - 1]
        parents.append(min(nearer, default=cell))
    return parents


def chords_among(edges, parents):
    """Give the edges that are not between a cell and its parent."""
    return [(a, b) for a, b in edges if parents[a] != b and parents[b] != a]


def way_up(cell, parents):
    """Give the cells from this one by parents up to its root."""
    way = [cell]
    while parents[way[-1]] != way[-1]:
        way.append(parents[way[-1]])
    return way


def roots_by(parents):
    """Give the roots of all cells."""
    return [way_up(cell, parents)[-1] for cell in range(len(parents))]


def ring_of(chord, parents):
    """Give the cells of a chord's ring: its two cells, then up from the greater one, and down to the lesser one."""
    lesser_way = way_up(chord[0], parents)
    greater_way = way_up(chord[1], parents)
    meeting = [cell for cell in greater_way if cell in lesser_way][0]
    up = greater_way[:greater_way.index(meeting)]
    # The cell where both ways meet comes with the way down; the lesser cell itself stands in front already.
    down = list(reversed(lesser_way[1:lesser_way.index(meeting) + 1]))
    return [chord[0]] + up + down


def height_of(cell, parents, states):
    """Give a cell's height, by the way down to it from its root."""
    down = list(reversed(way_up(cell, parents)))
    return states[down[0]] + walk_sum(states, down)


def heights_by(parents, states):
    """Give the heights of all cells."""
    return [height_of(cell, parents, states) for cell in range(len(parents))]


def winding_of(a, b, heights, states):
    """Give the winding of the chord a, b."""
    return (heights[a] + lean_between(states[a], states[b]) - heights[b]) // STATES


def windings_by(edges, neighbours, states):
    """Give each chord with its winding: its two cells and the winding."""
    parents = parents_by(neighbours)
    heights = heights_by(parents, states)
    return [(a, b, winding_of(a, b, heights, states)) for a, b in chords_among(edges, parents)]
