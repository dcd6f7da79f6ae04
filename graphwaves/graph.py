"""Graphs: edges out of the numbers that tell them, and which cells touch."""


def edge_between(a, b):
    """Write the edge between two cells down, the lesser cell first."""
    return (min(a, b), max(a, b))


def edges_told(numbers):
    """Take each two numbers as an edge."""
    return [edge_between(numbers[place], numbers[place + 1]) for place in range(0, len(numbers), 2)]


def are_proper(edges):
    """Tell whether each edge is between two unlike cells and none is there twice."""
    return all([a != b for a, b in edges]) and len(set(edges)) == len(edges)


def neighbours_by(n, edges):
    """Give each cell's neighbours."""
    neighbours = [[] for cell in range(n)]
    for a, b in edges:
        neighbours[a].append(b)
        neighbours[b].append(a)
    return neighbours


def is_walk(neighbours, cells):
    """Tell whether each cell touches the one before it."""
    return all([b in neighbours[a] for a, b in zip(cells, cells[1:])])
