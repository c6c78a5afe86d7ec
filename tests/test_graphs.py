"""Graphs of questions [28] [29] [2]."""

import copy
import itertools
import random
import unittest

from fairdraw.errors import TooMany
from fairdraw.graphs import Graph
from helper import SIGNS, plain_node, plain_nodes, plain_value

GREAT = 10 ** 60 - 1


def lists_of_answers(counts):
    return [list(answers) for answers in itertools.product(*[range(count) for count in counts])]


def plain_sign(sign, numbers):
    """What a sign makes of numbers."""
    names = ["x", "y", "z"][:len(numbers)]
    return plain_value((sign, *[("name", name) for name in names]), dict(zip(names, numbers)))


def long_node(graph, size, base):
    """A node of that size that asks no first question, with leaves from a base on; each question has six answers."""
    node = graph.leaf(base)
    made = 1
    question = 59
    while made < size:
        fresh = min(6, size - made) - 1
        leaves = [graph.leaf(base + made + number) for number in range(fresh)]
        node = graph.ask(question, [node] + leaves + [graph.leaf(base)] * (5 - fresh))
        made += fresh + 1
        question -= 1
    return node


class GraphCase(unittest.TestCase):
    def check(self, graph, counts, node, tell):
        """A node tells what a function of lists of answers tells, and is made as the document asks."""
        for answers in lists_of_answers(counts):
            kept = list(answers)
            self.assertEqual(graph.tells(node, answers), tell(answers))
            self.assertEqual(answers, kept)
        self.check_form(graph, node, plain_node(tell, counts))

    def check_form(self, graph, node, expected):
        self.assertIs(node.__class__, int)
        self.assertEqual(graph.size(node), len(plain_nodes(expected)))
        if expected[0] == "leaf":
            self.assertIsNone(graph.top(node))
            self.assertEqual(graph.leaf(expected[1]), node)
            return
        self.assertEqual(graph.top(node), expected[0])
        for answer, below in enumerate(expected[1]):
            self.check_form(graph, graph.child(node, answer), below)

    def refused(self, most, ask, *some):
        kept = copy.deepcopy(some)
        with self.assertRaises(TooMany) as caught:
            ask(*some)
        self.assertEqual(caught.exception.most, most)
        self.assertEqual(some, kept)


class Leaves(GraphCase):
    def test_values(self):
        graph = Graph([2, 3])
        numbers = [0, 1, -1, 7, GREAT, -GREAT, GREAT * 2, 2 ** 64]
        nodes = [graph.leaf(number) for number in numbers]
        self.assertEqual(len(set(nodes)), len(numbers))
        self.assertEqual([graph.leaf(number) for number in numbers], nodes)
        for number, node in zip(numbers, nodes):
            self.check(graph, [2, 3], node, lambda answers: number)
            self.assertEqual(graph.size(node), 1)
            self.assertIsNone(graph.top(node))

    def test_no_questions(self):
        graph = Graph([])
        self.assertEqual(graph.tells(graph.leaf(5), []), 5)
        self.assertEqual(graph.met("+", [graph.leaf(5), graph.leaf(-7)]), graph.leaf(-2))
        self.assertEqual(graph.met("not", [graph.leaf(5)]), graph.leaf(0))
        self.assertEqual(graph.met("pick", [graph.leaf(0), graph.leaf(1), graph.leaf(2)]), graph.leaf(2))
        graph = Graph([], 1)
        self.assertEqual(graph.met("=", [graph.leaf(5), graph.leaf(5)]), graph.leaf(1))


class Asked(GraphCase):
    def test_questions_of_one_to_six_answers(self):
        counts = [1, 2, 3, 4, 5, 6]
        for question, count in enumerate(counts):
            graph = Graph(counts)
            node = graph.ask(question, [graph.leaf(10 * answer) for answer in range(count)])
            for answer in range(count):
                answers = [0] * 6
                answers[question] = answer
                self.assertEqual(graph.tells(node, answers), 10 * answer)
            if count == 1:
                self.assertEqual(node, graph.leaf(0))
                continue
            self.assertEqual(graph.top(node), question)
            self.assertEqual(graph.size(node), count + 1)
            self.assertEqual([graph.child(node, answer) for answer in range(count)],
                             [graph.leaf(10 * answer) for answer in range(count)])

    def test_one_node_for_all_answers(self):
        graph = Graph([2, 3, 2])
        inner = graph.ask(2, [graph.leaf(1), graph.leaf(2)])
        self.assertEqual(graph.ask(1, [inner, inner, inner]), inner)
        self.assertEqual(graph.ask(0, [inner, graph.ask(1, [inner, inner, inner])]), inner)
        self.assertEqual(graph.ask(0, [graph.leaf(3), graph.leaf(3)]), graph.leaf(3))

    def test_leaves_and_later_questions(self):
        counts = [2, 3, 2]
        graph = Graph(counts)
        last = graph.ask(2, [graph.leaf(5), graph.leaf(6)])
        middle = graph.ask(1, [last, graph.leaf(5), last])
        first = graph.ask(0, [last, middle])
        self.check(graph, counts, last, lambda answers: 5 + answers[2])
        self.check(graph, counts, middle, lambda answers: 5 if answers[1] == 1 else 5 + answers[2])
        self.check(graph, counts, first, lambda answers: 5 if answers[:2] == [1, 1] else 5 + answers[2])
        # one skips the question between
        self.assertEqual([graph.top(graph.child(first, answer)) for answer in (0, 1)], [2, 1])
        self.assertEqual(graph.child(first, 0), last)
        self.assertEqual([graph.child(middle, answer) for answer in range(3)], [last, graph.leaf(5), last])

    def test_alike_are_one(self):
        graph = Graph([2, 2])
        one = graph.ask(1, [graph.leaf(0), graph.leaf(1)])
        other = graph.ask(0, [graph.leaf(0), graph.leaf(1)])
        turned = graph.ask(1, [graph.leaf(1), graph.leaf(0)])
        self.assertEqual(len({one, other, turned, graph.leaf(0), graph.leaf(1)}), 5)
        self.assertEqual(graph.ask(1, [graph.leaf(0), graph.leaf(1)]), one)
        self.assertEqual(graph.ask(0, [graph.leaf(0), graph.leaf(1)]), other)

    def test_a_list_changed_later(self):
        counts = [2, 3]
        graph = Graph(counts)
        some = [graph.leaf(1), graph.leaf(2), graph.leaf(3)]
        node = graph.ask(1, some)
        some[0] = graph.leaf(9)
        some.append(graph.leaf(8))
        counts[1] = 2
        counts.append(4)
        self.check(graph, [2, 3], node, lambda answers: 1 + answers[1])
        pair = [node, graph.leaf(10)]
        together = graph.met("+", pair)
        pair.clear()
        self.check(graph, [2, 3], together, lambda answers: 11 + answers[1])
        answers = [0, 2]
        self.assertEqual(graph.tells(together, answers), 13)
        self.assertEqual(answers, [0, 2])


class Met(GraphCase):
    counts = [2, 3, 2]

    def made(self):
        """A graph, and nodes that hang on one question each, and on none, with what they tell."""
        graph = Graph(self.counts)
        first = graph.ask(0, [graph.leaf(0), graph.leaf(-2)])
        second = graph.ask(1, [graph.leaf(-2), graph.leaf(0), graph.leaf(3)])
        third = graph.ask(2, [graph.leaf(1), graph.leaf(GREAT)])
        both = graph.ask(0, [second, third])
        return graph, [
            (first, lambda answers: [0, -2][answers[0]]),
            (second, lambda answers: [-2, 0, 3][answers[1]]),
            (third, lambda answers: [1, GREAT][answers[2]]),
            (both, lambda answers: [[-2, 0, 3][answers[1]], [1, GREAT][answers[2]]][answers[0]]),
            (graph.leaf(0), lambda answers: 0),
            (graph.leaf(1), lambda answers: 1),
            (graph.leaf(-5), lambda answers: -5),
        ]

    def check_sign(self, sign, many):
        graph, made = self.made()
        for some in itertools.product(made, repeat=many):
            nodes = [node for node, tell in some]
            kept = list(nodes)

            def tell(answers):
                return plain_sign(sign, [one(answers) for node, one in some])

            found = graph.met(sign, nodes)
            self.assertEqual(nodes, kept)
            self.check(graph, self.counts, found, tell)
            self.assertEqual(graph.met(sign, nodes), found)

    def test_not(self):
        self.check_sign("not", 1)

    def test_signs_of_two(self):
        for sign in SIGNS:
            with self.subTest(sign=sign):
                self.check_sign(sign, 2)

    def test_pick(self):
        self.check_sign("pick", 3)

    def test_by_hand(self):
        graph = Graph([2, 2])
        one = graph.ask(0, [graph.leaf(0), graph.leaf(2)])
        other = graph.ask(1, [graph.leaf(0), graph.leaf(3)])
        self.assertEqual([graph.tells(graph.met("+", [one, other]), answers) for answers in lists_of_answers([2, 2])],
                         [0, 3, 2, 5])
        self.assertEqual([graph.tells(graph.met("-", [one, other]), answers) for answers in lists_of_answers([2, 2])],
                         [0, -3, 2, -1])
        self.assertEqual(graph.met("and", [one, one]), graph.ask(0, [graph.leaf(0), graph.leaf(1)]))
        self.assertEqual(graph.met("and", [one, graph.leaf(7)]), graph.ask(0, [graph.leaf(0), graph.leaf(1)]))
        self.assertEqual(graph.met("or", [graph.leaf(0), one]), graph.ask(0, [graph.leaf(0), graph.leaf(1)]))
        self.assertEqual(graph.met("or", [graph.leaf(-7), one]), graph.leaf(1))
        self.assertEqual(graph.met("not", [one]), graph.ask(0, [graph.leaf(1), graph.leaf(0)]))
        self.assertEqual(graph.met("pick", [one, other, graph.leaf(9)]), graph.ask(0, [graph.leaf(9), other]))
        self.assertEqual(graph.met("pick", [graph.leaf(-1), one, other]), one)
        self.assertEqual(graph.met("pick", [graph.leaf(0), one, other]), other)
        self.assertEqual(graph.met("pick", [one, other, other]), other)

    def test_nothing_is_left_to_ask(self):
        graph = Graph([3, 2])
        one = graph.ask(0, [graph.leaf(0), graph.leaf(2), graph.leaf(4)])
        self.assertEqual(graph.met("-", [one, one]), graph.leaf(0))
        self.assertEqual(graph.met("=", [one, one]), graph.leaf(1))
        self.assertEqual(graph.met("<", [one, graph.leaf(5)]), graph.leaf(1))
        self.assertEqual(graph.met("and", [one, graph.met("not", [one])]), graph.leaf(0))
        self.assertEqual(graph.met("or", [graph.met("not", [one]), one]), graph.leaf(1))


class OneNumber(GraphCase):
    def test_however_made(self):
        graph = Graph([2, 2, 2])
        coins = [graph.ask(number, [graph.leaf(0), graph.leaf(1)]) for number in range(3)]
        one = graph.met("+", [graph.met("+", [coins[0], coins[1]]), coins[2]])
        other = graph.met("+", [coins[2], graph.met("+", [coins[1], coins[0]])])
        self.assertEqual(one, other)
        last = [graph.ask(2, [graph.leaf(number), graph.leaf(number + 1)]) for number in range(3)]
        asked = graph.ask(0, [graph.ask(1, last[:2]), graph.ask(1, last[1:])])
        self.assertEqual(one, asked)
        self.assertEqual(graph.met("pick", [coins[0], graph.ask(1, last[1:]), graph.ask(1, last[:2])]), one)
        self.assertEqual(graph.met("-", [graph.met("+", [one, coins[0]]), coins[0]]), one)
        # a and not b, in several ways
        turned = graph.met("not", [coins[1]])
        self.assertEqual(graph.met("and", [coins[0], turned]), graph.met("<", [coins[1], coins[0]]))
        self.assertEqual(graph.met("not", [graph.met("or", [graph.met("not", [coins[0]]), coins[1]])]),
                         graph.ask(0, [graph.leaf(0), graph.ask(1, [graph.leaf(1), graph.leaf(0)])]))

    def test_numbers_stay(self):
        graph = Graph([2] * 20)
        coins = [graph.ask(number, [graph.leaf(0), graph.leaf(1)]) for number in range(20)]
        kept = list(coins)
        so_far = graph.leaf(0)
        sums = []
        for coin in coins:
            so_far = graph.met("+", [so_far, coin])
            sums.append(so_far)
        self.assertEqual([graph.ask(number, [graph.leaf(0), graph.leaf(1)]) for number in range(20)], kept)
        so_far = graph.leaf(0)
        for coin, node in zip(coins, sums):
            so_far = graph.met("+", [coin, so_far])
            self.assertEqual(so_far, node)

    def test_children_are_nodes_like_others(self):
        graph = Graph([2, 2])
        both = graph.met("+", [graph.ask(number, [graph.leaf(0), graph.leaf(1)]) for number in (0, 1)])
        self.assertEqual(graph.child(both, 0), graph.ask(1, [graph.leaf(0), graph.leaf(1)]))
        self.assertEqual(graph.child(both, 1), graph.ask(1, [graph.leaf(1), graph.leaf(2)]))
        self.assertEqual(graph.child(graph.child(both, 1), 0), graph.leaf(1))
        self.assertEqual(graph.met("not", [graph.child(both, 0)]), graph.ask(1, [graph.leaf(1), graph.leaf(0)]))

    def test_two_graphs_side_by_side(self):
        one = Graph([2])
        other = Graph([3, 2], 4)
        nodes = [one.leaf(5), one.leaf(6)]
        others = [other.leaf(6), other.leaf(7), other.leaf(5)]
        first = one.ask(0, nodes)
        second = other.ask(0, others)
        self.assertEqual([one.tells(first, [answer]) for answer in (0, 1)], [5, 6])
        self.assertEqual([other.tells(second, [answer, 0]) for answer in (0, 1, 2)], [6, 7, 5])
        self.assertEqual([one.size(first), other.size(second)], [3, 4])
        self.assertEqual([one.leaf(5), one.leaf(6)], nodes)
        self.assertEqual([other.leaf(6), other.leaf(7), other.leaf(5)], others)

    def test_strewn(self):
        for seed in range(12):
            chance = random.Random(seed)
            counts = [chance.randrange(1, 4) for time in range(4)]
            most = 500 if seed % 2 else 7
            with self.subTest(seed=seed):
                self.strew(chance, Graph(counts, most), counts, most)

    def strew(self, chance, graph, counts, most):
        lists = lists_of_answers(counts)
        by_table = {}
        for number in (0, 1, -3):
            by_table[(number,) * len(lists)] = graph.leaf(number)
        for question, count in enumerate(counts):
            leaves = [chance.randrange(-2, 3) for answer in range(count)]
            node = graph.ask(question, [graph.leaf(number) for number in leaves])
            by_table[tuple(leaves[answers[question]] for answers in lists)] = node
        for time in range(60):
            sign = chance.choice(SIGNS + ["not", "pick"])
            many = {"not": 1, "pick": 3}.get(sign, 2)
            tables = [chance.choice(sorted(by_table)) for number in range(many)]
            table = tuple(plain_sign(sign, numbers) for numbers in zip(*tables))
            expected = plain_node(lambda answers: table[lists.index(answers)], counts)
            nodes = [by_table[one] for one in tables]
            if len(plain_nodes(expected)) > most:
                self.refused(most, graph.met, sign, nodes)
                continue
            found = graph.met(sign, nodes)
            self.assertEqual(by_table.setdefault(table, found), found)
            self.check_form(graph, found, expected)
        self.assertEqual(len(set(by_table.values())), len(by_table))
        for table, node in by_table.items():
            self.assertEqual([graph.tells(node, answers) for answers in lists], list(table))


class Size(GraphCase):
    def test_shared_nodes_count_once(self):
        graph = Graph([2, 2, 2])
        last = graph.ask(2, [graph.leaf(0), graph.leaf(1)])
        self.assertEqual(graph.size(last), 3)
        turned = graph.ask(2, [graph.leaf(1), graph.leaf(0)])
        middle = graph.ask(1, [last, turned])
        self.assertEqual(graph.size(middle), 5)
        self.assertEqual(graph.size(graph.ask(0, [middle, last])), 6)
        self.assertEqual(graph.size(graph.ask(0, [middle, graph.leaf(5)])), 7)
        self.assertEqual(graph.size(graph.ask(0, [last, turned])), 5)

    def test_what_else_was_made_counts_for_nothing(self):
        graph = Graph([2, 2])
        node = graph.ask(1, [graph.leaf(0), graph.leaf(1)])
        for number in range(50):
            graph.ask(0, [graph.leaf(number), node])
        self.assertEqual(graph.size(node), 3)
        self.assertEqual(graph.size(graph.leaf(40)), 1)

    def test_most_asked(self):
        for count in range(2, 7):
            graph = Graph([2, count], count + 1)
            node = graph.ask(1, [graph.leaf(answer) for answer in range(count)])
            self.assertEqual(graph.size(node), count + 1)
            self.refused(count + 1, graph.ask, 0, [node, graph.leaf(0)])
            graph = Graph([2, count], count)
            self.refused(count, graph.ask, 1, [graph.leaf(answer) for answer in range(count)])
        graph = Graph([6], 1)
        self.assertEqual(graph.ask(0, [graph.leaf(4)] * 6), graph.leaf(4))
        self.refused(1, graph.ask, 0, [graph.leaf(4)] * 5 + [graph.leaf(3)])

    def test_most_met(self):
        # the sum of so many coins asks each in as many nodes as sums are met, and has as many leaves and one more
        for many in range(1, 6):
            size = sum(range(1, many + 2))
            for most in (size, size - 1):
                graph = Graph([2] * many, most)
                so_far = graph.leaf(0)
                if size == 3 and most == 2:
                    self.refused(2, graph.ask, 0, [graph.leaf(0), graph.leaf(1)])
                    continue
                coins = [graph.ask(number, [graph.leaf(0), graph.leaf(1)]) for number in range(many)]
                for coin in coins[:-1]:
                    so_far = graph.met("+", [so_far, coin])
                if most == size:
                    self.assertEqual(graph.size(graph.met("+", [so_far, coins[-1]])), size)
                else:
                    self.refused(most, graph.met, "+", [so_far, coins[-1]])
                    self.refused(most, graph.met, "+", [coins[-1], so_far])

    def test_most_of_each_sign(self):
        for sign, size in (("+", 6), ("-", 6), ("<", 4), ("=", 5), ("and", 4), ("or", 4)):
            for most in range(3, 8):
                graph = Graph([2, 2], most)
                nodes = [graph.ask(number, [graph.leaf(0), graph.leaf(1)]) for number in range(2)]
                with self.subTest(sign=sign, most=most):
                    if most >= size:
                        self.assertEqual(graph.size(graph.met(sign, nodes)), size)
                    else:
                        self.refused(most, graph.met, sign, nodes)

    def test_most_of_pick_and_not(self):
        for most in range(4, 9):
            graph = Graph([2, 2, 2], most)
            nodes = [graph.ask(number, [graph.leaf(2 * number), graph.leaf(2 * number + 1)]) for number in range(3)]
            if most >= 7:
                self.assertEqual(graph.size(graph.met("pick", nodes)), 7)
            else:
                self.refused(most, graph.met, "pick", nodes)
            self.assertEqual(graph.size(graph.met("not", [nodes[0]])), 3)

    def test_a_part_that_is_told_as_it_stands(self):
        # what a pick goes to is not gone through anew, but counts
        for most in (7, 8):
            graph = Graph([2, 2, 6], most)
            inner = graph.ask(2, [graph.leaf(number) for number in range(5)] + [graph.leaf(0)])
            coin = graph.ask(0, [graph.leaf(0), graph.leaf(1)])
            other = graph.leaf(9)
            if most == 8:
                self.assertEqual(graph.size(graph.met("pick", [coin, inner, other])), 8)
            else:
                self.refused(7, graph.met, "pick", [coin, inner, other])

    def test_used_as_ahead_behind_a_refusal(self):
        graph = Graph([2, 2, 2], 5)
        coins = [graph.ask(number, [graph.leaf(0), graph.leaf(1)]) for number in range(3)]
        turned = graph.met("not", [coins[2]])
        great = graph.ask(2, [graph.leaf(1), graph.leaf(5)])
        lists = lists_of_answers([2] * 3)
        kept = [(node, [graph.tells(node, answers) for answers in lists]) for node in coins + [turned, great]]
        for time in range(2):
            self.refused(5, graph.met, "+", [coins[0], coins[1]])
            self.refused(5, graph.met, "-", coins[1:])
            self.refused(5, graph.ask, 0, [coins[1], great])
            for node, told in kept:
                self.assertEqual([graph.tells(node, answers) for answers in lists], told)
                self.assertEqual(graph.size(node), 3)
            self.assertEqual([graph.ask(number, [graph.leaf(0), graph.leaf(1)]) for number in range(3)], coins)
            self.assertEqual(graph.met("not", [coins[2]]), turned)
            # parts of what was refused are told, where they are small enough
            self.check(graph, [2] * 3, graph.ask(1, [graph.leaf(1), graph.leaf(2)]), lambda answers: 1 + answers[1])
            equal = graph.met("=", [coins[0], coins[1]])
            self.check(graph, [2] * 3, equal, lambda answers: int(answers[0] == answers[1]))

    def test_the_built_in_most(self):
        graph = Graph([6] * 60)
        sides = [long_node(graph, size, base) for size, base in ((249, 0), (250, 1000), (250, 2000))]
        self.assertEqual([graph.size(node) for node in sides], [249, 250, 250])
        coin = graph.ask(0, [graph.leaf(0)] + [graph.leaf(1)] * 5)
        asked = graph.ask(0, [sides[1]] + [sides[0]] * 5)
        self.assertEqual(graph.size(asked), 500)
        self.assertEqual(graph.met("pick", [coin] + sides[:2]), asked)
        self.assertEqual(graph.size(graph.met("+", [asked, graph.leaf(5)])), 500)
        self.refused(500, graph.ask, 0, [sides[1]] + [sides[2]] * 5)
        self.refused(500, graph.met, "pick", [coin] + sides[1:])
        graph = Graph([6] * 60, 501)
        sides = [long_node(graph, 250, base) for base in (0, 1000)]
        self.assertEqual(graph.size(graph.ask(0, [sides[0]] + [sides[1]] * 5)), 501)


class ManyQuestions(GraphCase):
    def test_sixty_questions_of_six_answers(self):
        counts = [6] * 60
        graph = Graph(counts)
        draws = [graph.ask(number, [graph.leaf(answer % 2) for answer in range(6)]) for number in range(60)]
        odd = graph.leaf(0)
        for node in draws:
            odd = graph.met("not", [graph.met("=", [odd, node])])
        self.assertEqual(graph.size(odd), 2 * 60 + 1)
        chance = random.Random(1)
        for time in range(50):
            answers = [chance.randrange(6) for number in range(60)]
            self.assertEqual(graph.tells(odd, answers), sum(answers) % 2)
        self.assertEqual(graph.met("=", [odd, odd]), graph.leaf(1))
        turned = graph.leaf(0)
        for node in reversed(draws):
            turned = graph.met("not", [graph.met("=", [node, turned])])
        self.assertEqual(turned, odd)

    def test_all_and_one(self):
        graph = Graph([3] * 60)
        coins = [graph.ask(number, [graph.leaf(0), graph.leaf(5), graph.leaf(-2)]) for number in range(60)]
        every = graph.leaf(1)
        some = graph.leaf(0)
        greatest = graph.leaf(-9)
        for node in coins:
            every = graph.met("and", [every, node])
            some = graph.met("or", [node, some])
            greatest = graph.met("pick", [graph.met("<", [greatest, node]), node, greatest])
        self.assertEqual([graph.size(every), graph.size(some)], [62, 62])
        self.assertEqual(graph.tells(greatest, [2] * 60), -2)
        self.assertEqual(graph.tells(greatest, [2] * 59 + [0]), 0)
        self.assertEqual(graph.tells(greatest, [2] * 59 + [1]), 5)
        self.assertEqual(graph.tells(every, [1] * 60), 1)
        self.assertEqual(graph.tells(every, [1] * 30 + [0] + [2] * 29), 0)
        none = graph.met("not", [some])
        self.assertEqual(graph.met("and", [none, graph.met("=", [greatest, graph.leaf(0)])]), none)

    def test_far_too_many_are_refused_soon(self):
        # the sum of draws of 1, 2, 4, .. has a leaf for each list of answers
        graph = Graph([2] * 60, 3000)
        so_far = graph.leaf(0)
        with self.assertRaises(TooMany) as caught:
            for number in range(60):
                so_far = graph.met("+", [so_far, graph.ask(number, [graph.leaf(0), graph.leaf(2 ** number)])])
        self.assertEqual(caught.exception.most, 3000)
        self.assertLess(graph.size(so_far), 3001)

    def test_great_nodes_met_are_refused_soon(self):
        # each has some hundred nodes; the sum would have a hundred thousand
        graph = Graph([2] * 60, 3000)
        sums = []
        for begin, weight in ((0, 1), (1, 1000)):
            so_far = graph.leaf(0)
            for number in range(begin, 60, 2):
                so_far = graph.met("+", [so_far, graph.ask(number, [graph.leaf(0), graph.leaf(weight)])])
            sums.append(so_far)
        self.assertEqual([graph.size(node) for node in sums], [496, 496])
        self.refused(3000, graph.met, "+", sums)
        self.refused(3000, graph.met, "pick", [graph.met("<", [sums[0], graph.leaf(15)]), sums[1], sums[0]])

    def test_a_pick_goes_into_what_it_needs(self):
        # no answers ask both sides at once, so few nodes are met
        graph = Graph([2] * 60, 100000)
        sides = []
        for begin in (1, 2):
            so_far = graph.leaf(0)
            for number in range(begin, 60, 2):
                so_far = graph.met("+", [so_far, graph.ask(number, [graph.leaf(0), graph.leaf(begin)])])
            sides.append(so_far)
        coin = graph.ask(0, [graph.leaf(0), graph.leaf(1)])
        found = graph.met("pick", [coin] + sides)
        self.assertEqual([graph.child(found, 0), graph.child(found, 1)], sides[::-1])

    def test_a_pick_whose_choice_is_sure(self):
        # three sums by turns, the first of them never 0: to go through all three at once would take millions of steps
        graph = Graph([6] * 36)
        sums = []
        for begin in range(3):
            so_far = graph.leaf(1)
            for number in range(begin, 36, 3):
                so_far = graph.met("+", [so_far, graph.ask(number, [graph.leaf(answer) for answer in range(6)])])
            sums.append(so_far)
        self.assertEqual([graph.size(node) for node in sums], [403] * 3)
        self.assertEqual(graph.met("pick", sums), sums[1])
        self.assertEqual(graph.met("pick", [graph.met("<", [sums[0], graph.leaf(0)])] + sums[1:]), sums[2])


if __name__ == "__main__":
    unittest.main()
