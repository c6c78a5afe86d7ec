"""Graphs of questions, in which nodes that tell the same are one [28] [29]."""

from fairdraw.errors import TooMany
from fairdraw.parts import reckoned


class Graph:
    """Nodes over questions that have so many answers each, of at most so many nodes each.

    A node is kept as a tuple: the question that it asks and the nodes to which it goes, or None and a leaf's value.
    As each tuple is kept once, from the leaves up, nodes that tell the same have one number.
    """

    def __init__(self, counts, most=500):
        self.counts = list(counts)
        self.most = most
        self.nodes = []
        self.numbers = {}

    def number_of(self, node):
        """The number of a node, a new one where there was none like it."""
        if node not in self.numbers:
            self.numbers[node] = len(self.nodes)
            self.nodes.append(node)
        return self.numbers[node]

    def leaf(self, value):
        """The leaf of a value."""
        return self.number_of((None, value))

    def asked(self, question, nodes):
        """The node that asks a question, whatever its size."""
        if all([node == nodes[0] for node in nodes]):
            return nodes[0]
        return self.number_of((question, nodes))

    def ask(self, question, nodes):
        """The node that asks a question and goes to one of these by each answer."""
        return self.within_most(self.asked(question, tuple(nodes)))

    def met(self, sign, nodes):
        """The node of nodes under a sign."""
        some = list(nodes)
        if sign == "pick":
            # where a choice is sure, whatever number it is, only the side that is taken need be gone through
            some[0] = self.truth(some[0])
        return self.within_most(Meeting(self, sign).meet(tuple(some)))

    def truth(self, node):
        """The node that tells 0 where a node does, else 1; its size is never above that one's."""
        turned = Meeting(self, "not").meet((node,))
        return Meeting(self, "not").meet((turned,))

    def within_most(self, node):
        """The node, if it is not too great."""
        if self.size(node) > self.most:
            raise TooMany(self.most)
        return node

    def top(self, node):
        """The question that a node asks, None of a leaf."""
        return self.nodes[node][0]

    def child(self, node, answer):
        """The node to which one that asks goes by an answer."""
        return self.nodes[node][1][answer]

    def leaf_value(self, node):
        """The value of a leaf, None of a node that asks."""
        return self.nodes[node][1] if self.top(node) is None else None

    def behind_answer(self, node, question, answer):
        """The node that is left of one behind the answer to a question, itself where it asks another one."""
        return self.child(node, answer) if self.top(node) == question else node

    def tells(self, node, answers):
        """What a node tells for a list of answers."""
        while self.top(node) is not None:
            node = self.child(node, answers[self.top(node)])
        return self.leaf_value(node)

    def size(self, node):
        """How many unlike nodes one comes to from a node."""
        met_nodes = {node: True}
        left = [node]
        while len(left) > 0:
            one = left.pop()
            if self.top(one) is not None:
                for other in self.nodes[one][1]:
                    if other not in met_nodes:
                        met_nodes[other] = True
                        left.append(other)
        return len(met_nodes)


class Meeting:
    """Nodes of a graph met under one sign, those under them too; the same nodes are met once."""

    def __init__(self, graph, sign):
        self.graph = graph
        self.sign = sign
        self.done = {}
        self.unlike = {}

    def settled(self, nodes):
        """The node of nodes where nothing must be asked for it, else None."""
        numbers = [self.graph.leaf_value(node) for node in nodes]
        if self.sign == "pick":
            if numbers[0] is not None:
                return nodes[1] if numbers[0] != 0 else nodes[2]
            return nodes[1] if nodes[1] == nodes[2] else None
        if self.sign == "and" and 0 in numbers:
            return self.graph.leaf(0)
        if self.sign == "or" and any([number not in (None, 0) for number in numbers]):
            return self.graph.leaf(1)
        if None in numbers:
            return None
        return self.graph.leaf(reckoned(self.sign, numbers))

    def asked_on(self, nodes):
        """The node of nodes that asks the first question that one of them asks."""
        graph = self.graph
        tops = [graph.top(node) for node in nodes]
        question = min([top for top in tops if top is not None])
        children = []
        for answer in range(graph.counts[question]):
            behind = tuple([graph.behind_answer(node, question, answer) for node in nodes])
            children.append(self.meet(behind))
        return graph.asked(question, tuple(children))

    def meet(self, nodes):
        """The node of nodes, whatever its size, but refused once it is sure to be too great."""
        if nodes not in self.done:
            found = self.settled(nodes)
            if found is None:
                found = self.asked_on(nodes)
            self.done[nodes] = found
            # some answers lead from the node that is told at last to each one found here, so all count for its size
            self.unlike[found] = True
            if len(self.unlike) > self.graph.most:
                raise TooMany(self.graph.most)
        return self.done[nodes]
