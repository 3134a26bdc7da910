"""Webs: edges between nodes, with their flows, their heights and their round trips."""

from fineststep.books import Book, other_side
from fineststep.errors import BadSize, BadWeb
from fineststep.rows import support

NODES = 20


def check_edges(edges):
    """Raises BadWeb if a node is out of range."""
    for _, tail, head in edges:
        if not 0 <= tail < NODES or not 0 <= head < NODES:
            raise BadWeb("a node is out of range")


def height_book(edges):
    """Returns the book in which each edge has the number of its head less that of its tail."""
    check_edges(edges)
    return Book([edge[0] for edge in edges], [height_row(edges, node) for node in range(NODES)])


def height_row(edges, node):
    """Returns the numbers of the edges if this node has the number 1 and the others have 0."""
    return [int(head == node) - int(tail == node) for _, tail, head in edges]


def flow_book(edges):
    """Returns the book in which at each node as much comes in as goes out."""
    return other_side(height_book(edges))


def is_round_trip(edges, row):
    """Returns True if the row is a round trip, otherwise False."""
    if len(row) != len(edges):
        raise BadSize("the row does not have one number for each edge")
    check_edges(edges)
    if any([number not in (-1, 0, 1) for number in row]):
        return False
    passed = support(row)
    ways = {}
    for k in passed:
        _, tail, head = edges[k]
        start, end = (tail, head) if row[k] == 1 else (head, tail)
        ways[start] = end
    return len(ways) == len(passed) and is_one_trip(ways)


def is_one_trip(ways):
    """Returns True if the ways, each from its key to its value, make one trip that ends where it began."""
    nodes = list(ways)
    if not nodes:
        return False
    node = ways[nodes[0]]
    passed = 1
    while node != nodes[0] and node in ways and passed < len(nodes):
        node = ways[node]
        passed += 1
    return node == nodes[0] and passed == len(nodes)
