"""Point 49: edges, flows, heights and round trips."""

import itertools
import random
import unittest

from fineststep.books import Book, other_side, same_book
from fineststep.errors import BadName, BadSize, BadWeb
from fineststep.finest import finest_step
from fineststep.turnings import is_turning
from fineststep.webs import flow_book, height_book, is_round_trip
from helpers import Case, kernel, names, numbers_of, signed, slow_turnings

TRIANGLE = [("a", 0, 1), ("b", 1, 2), ("c", 2, 0)]


def random_edges(rng, many, nodes):
    """Returns so many edges between some of the nodes from 0 to 19."""
    places = rng.sample(range(20), nodes)
    return [(name, rng.choice(places), rng.choice(places)) for name in names(many)]


def node_rows(edges):
    """Returns for each node what comes in less what goes out."""
    return [[int(head == node) - int(tail == node) for _, tail, head in edges] for node in range(20)]


def slow_trips(edges):
    """Returns all round trips, found by walking all paths."""
    found = []

    def walk(first, node, seen, row):
        for k, (_, tail, head) in enumerate(edges):
            for start, end, sign in ((tail, head, 1), (head, tail, -1)):
                if row[k] == 0 and start == node:
                    longer = row[:k] + [sign] + row[k + 1:]
                    if end == first:
                        found.append(longer)
                    elif end not in seen:
                        walk(first, end, seen + [end], longer)

    for node in range(20):
        walk(node, node, [node], [0] * len(edges))
    return found


class Books(Case):
    def test_some(self):
        self.assertEqual([flow_book(TRIANGLE).frame, height_book(TRIANGLE).frame], [((1, 1, 1),), ((1, 0, -1), (0, 1, -1))])
        self.assertEqual(flow_book(TRIANGLE).names, ("a", "b", "c"))

    def test_equal_nodes(self):
        edges = [("a", 3, 3), ("b", 3, 4)]
        self.assertEqual([flow_book(edges).frame, height_book(edges).frame], [((1, 0),), ((0, 1),)])

    def test_doubled_edges(self):
        edges = [("a", 0, 19), ("b", 0, 19), ("c", 19, 0)]
        self.assertEqual([flow_book(edges).frame, height_book(edges).frame], [((1, 0, 1), (0, 1, 1)), ((1, 1, -1),)])

    def test_several_pieces(self):
        edges = TRIANGLE + [("d", 5, 6), ("e", 6, 5), ("f", 7, 8)]
        self.assertEqual(flow_book(edges).frame, ((1, 1, 1, 0, 0, 0), (0, 0, 0, 1, 1, 0)))

    def test_many_webs(self):
        rng = random.Random(38)
        for _ in range(60):
            edges = random_edges(rng, rng.randint(1, 8), rng.randint(1, 6))
            flows, heights = flow_book(edges), height_book(edges)
            rows = node_rows(edges)
            self.assertTrue(same_book(heights, Book([edge[0] for edge in edges], rows)))
            self.assertTrue(same_book(flows, Book(flows.names, [numbers_of(x) for x in kernel(rows, len(edges))])))
            self.assertTrue(same_book(other_side(flows), heights))
            self.assertTrue(same_book(other_side(heights), flows))
            self.assertEqual([finest_step(flows), finest_step(heights)], [1, 1])

    def test_sixteen_edges(self):
        edges = random_edges(random.Random(39), 16, 8)
        self.assertTrue(same_book(other_side(flow_book(edges)), height_book(edges)))

    def test_errors(self):
        for function in (flow_book, height_book):
            for edge in (("A", 0, 20), ("A", 20, 0), ("A", -1, 0), ("A", 0, -1)):
                self.raises(BadWeb, function, [edge])
                self.raises(BadWeb, function, TRIANGLE + [edge])
            self.raises(BadSize, function, [])
            self.raises(BadSize, function, [("A", 0, 1)] * 17)
            self.raises(BadWeb, function, [("A", 0, 1)] * 17 + [("A", 0, 20)])
            self.raises(BadName, function, [("A", 0, 1)])
            self.raises(BadName, function, [("a", 0, 1), ("a", 1, 2)])
            self.assertEqual(function([("a", 0, 19)]).size, 1)


class Trips(Case):
    def test_some(self):
        self.assertIs(is_round_trip(TRIANGLE, [1, 1, 1]), True)
        self.assertIs(is_round_trip(TRIANGLE, [-1, -1, -1]), True)
        for row in ([0, 0, 0], [1, 1, 0], [1, 1, -1], [2, 2, 2], [1, 1, 2], [(1, 2), (1, 2), (1, 2)], [-1, 1, 1]):
            self.assertIs(is_round_trip(TRIANGLE, row), False)

    def test_equal_nodes(self):
        edges = [("a", 3, 3), ("b", 3, 4), ("c", 4, 3), ("d", 4, 4)]
        for row in ([1, 0, 0, 0], [-1, 0, 0, 0], [0, 1, 1, 0], [0, -1, -1, 0], [0, 0, 0, -1]):
            self.assertIs(is_round_trip(edges, row), True)
        for row in ([1, 1, 1, 0], [1, 0, 0, 1], [0, 1, 0, 0], [0, 1, -1, 0], [2, 0, 0, 0], [0, 1, 1, 1], [0, 0, 0, (1, 2)]):
            self.assertIs(is_round_trip(edges, row), False)

    def test_sums_of_two(self):
        edges = TRIANGLE + [("d", 5, 6), ("e", 5, 6), ("f", 0, 3), ("g", 3, 0)]
        for row in ([1, 1, 1, 0, 0, 0, 0], [0, 0, 0, 1, -1, 0, 0], [0, 0, 0, 0, 0, 1, 1]):
            self.assertIs(is_round_trip(edges, row), True)
        for row in ([1, 1, 1, 1, -1, 0, 0], [1, 1, 1, 0, 0, 1, 1], [0, 0, 0, 1, -1, 1, 1], [0, 0, 0, 1, 1, 0, 0]):
            self.assertIs(is_round_trip(edges, row), False)

    def test_a_path_that_meets_a_node_twice(self):
        edges = [("a", 0, 1), ("b", 1, 2), ("c", 2, 0), ("d", 0, 3), ("e", 3, 4), ("f", 4, 0)]
        self.assertIs(is_round_trip(edges, [1] * 6), False)
        self.assertIs(is_round_trip(edges, [0, 0, 0, -1, -1, -1]), True)

    def test_names_and_the_number_of_edges_are_not_looked_at(self):
        edges = [("", k, (k + 1) % 20) for k in range(20)]
        self.assertIs(is_round_trip(edges, [1] * 20), True)
        self.assertIs(is_round_trip(edges, [1] * 19 + [0]), False)
        self.assertIs(is_round_trip([("A", 0, 1), ("A", 0, 1)], [1, -1]), True)
        self.assertIs(is_round_trip([], []), False)
        self.assertIs(is_round_trip([("a", 2, 2)] * 40, [0] * 39 + [-1]), True)

    def test_all_rows_of_small_webs(self):
        rng = random.Random(40)
        for _ in range(40):
            edges = random_edges(rng, rng.randint(1, 5), rng.randint(1, 4))
            trips = slow_trips(edges)
            book = flow_book(edges)
            for row in itertools.product((-1, 0, 1), repeat=len(edges)):
                self.assertIs(is_round_trip(edges, list(row)), list(row) in trips)
                self.assertIs(is_round_trip(edges, list(row)), is_turning(book, list(row)))

    def test_round_trips_are_the_signed_turnings_of_the_flow_book(self):
        rng = random.Random(41)
        for _ in range(15):
            edges = random_edges(rng, 8, 5)
            self.assertEqual(sorted(signed(slow_turnings(flow_book(edges)))), sorted(set_of(slow_trips(edges))))

    def test_errors(self):
        for row in ([], [1, 1], [1, 1, 1, 1]):
            self.raises(BadSize, is_round_trip, TRIANGLE, row)
            self.raises(BadSize, is_round_trip, [("a", 0, 20), ("b", -1, 0), ("c", 0, 0)], row)
        for edge in (("c", 0, 20), ("c", 20, 0), ("c", -1, 0), ("c", 0, -1)):
            self.raises(BadWeb, is_round_trip, TRIANGLE[:2] + [edge], [5, 0, 0])
        self.raises(BadWeb, is_round_trip, [("a", 99, 0)], [0])


def set_of(rows):
    """Returns the rows, each once."""
    return [list(row) for row in {tuple(row) for row in rows}]


if __name__ == "__main__":
    unittest.main()
