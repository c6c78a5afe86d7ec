"""Sheets by the graph of questions: their told shares, and which values are the same [30] [31] [32]."""

from fairdraw.errors import CannotBe
from fairdraw.fractions import times
from fairdraw.gathering import Gathering
from fairdraw.graphs import Graph
from fairdraw.tables import told


class Asker:
    """The nodes of a sheet's values and of what was seen, its draws being the questions."""

    def __init__(self, sheet, most):
        self.draws = [row[2] for row in sheet[1] if row[0] == "draw"]
        self.most = most
        self.graph = Graph([len(outcomes) for outcomes in self.draws], most)
        self.nodes = {}
        self.seen = self.graph.leaf(1)
        question = 0
        for row in sheet[1]:
            if row[0] == "draw":
                self.nodes[row[1]] = self.draw_node(question)
                question += 1
            elif row[0] == "let":
                self.nodes[row[1]] = self.node_of(row[2])
            else:
                self.seen = self.graph.met("and", [self.seen, self.node_of(row[1])])

    def draw_node(self, question):
        """The node of a draw."""
        leaves = [self.graph.leaf(number) for number, share in self.draws[question]]
        return self.graph.ask(question, leaves)

    def node_of(self, e):
        """The node of an expression."""
        if e[0] == "num":
            return self.graph.leaf(e[1])
        if e[0] == "name":
            return self.nodes[e[1]]
        return self.graph.met(e[0], [self.node_of(part) for part in e[1:]])

    def cannot_be(self, node):
        """Whether a node tells 0 for all answers."""
        return node == self.graph.leaf(0)

    def first_rows(self, names):
        """The rows ahead of all questions: what was seen and these names."""
        nodes = tuple([self.seen] + [self.nodes[name] for name in names])
        rows = Gathering(self.most)
        if not self.cannot_be(self.seen):
            rows.add(nodes, (1, 1))
        return rows

    def rows_behind(self, rows, question):
        """The rows behind a question."""
        behind = Gathering(self.most)
        for nodes, share in rows.shares.items():
            for answered, part_share in self.answered(nodes, question):
                if not self.cannot_be(answered[0]):
                    behind.add(answered, times(share, part_share))
        return behind

    def answered(self, nodes, question):
        """What becomes of nodes by the answers to a question, with the shares of these."""
        graph = self.graph
        if question not in [graph.top(node) for node in nodes]:
            return [(nodes, (1, 1))]
        found = []
        for answer, outcome in enumerate(self.draws[question]):
            behind = [graph.behind_answer(node, question, answer) for node in nodes]
            found.append((tuple(behind), outcome[1]))
        return found


def by_graph(sheet, most=500):
    """The told shares of a sheet, by its graph."""
    asker = Asker(sheet, most)
    rows = asker.first_rows(sheet[2])
    for question in range(len(asker.draws)):
        rows = asker.rows_behind(rows, question)
    shares = []
    for nodes, share in rows.shares.items():
        # no question is left, so all are leaves
        numbers = tuple([asker.graph.leaf_value(node) for node in nodes[1:]])
        shares.append((numbers, share))
    return told((tuple(sheet[2]), shares), sheet[2])


def same(sheet, one, other, most=500):
    """Whether two values of a sheet are equal in every way in which all that was seen holds."""
    asker = Asker(sheet, most)
    if asker.cannot_be(asker.seen):
        raise CannotBe()
    graph = asker.graph
    equal = graph.met("=", [asker.nodes[one], asker.nodes[other]])
    unlike = graph.met("not", [equal])
    return asker.cannot_be(graph.met("and", [asker.seen, unlike]))
