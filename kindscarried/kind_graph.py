"""Kinds that are still being found, as a graph whose nodes are integers.

Kinds that are the same share a node, so that a kind that would have very many
nodes when written out, or be nested very deep, takes no more room than the
program that brings it about; nothing here goes by recursion.
"""

from kindscarried.found_kinds import made_kind


class Graph:
    """Nodes, each an open kind or a label over other nodes.

    A label is a pair: a word of found kinds, and the word of a data or the own
    variable of a function that it stands for (None for all others).
    """

    def __init__(self):
        self.joined = []
        self.labels = []
        self.inner = []

    def new_node(self, label, inner):
        self.joined.append(None)
        self.labels.append(label)
        self.inner.append(tuple(inner))
        return len(self.joined) - 1

    def open_kind(self):
        return self.new_node(None, ())

    def made(self, word, inner):
        return self.new_node((word, None), inner)

    def root(self, node):
        """The node that all nodes of the same kind lead to."""
        top = node
        while self.joined[top] is not None:
            top = self.joined[top]
        while self.joined[node] is not None:
            above = self.joined[node]
            self.joined[node] = top
            node = above
        return top

    def is_open(self, root):
        return self.labels[root] is None

    def settle(self, root, variable):
        """An open kind becomes an own variable of a function."""
        self.labels[root] = ("free", variable)

    def agree(self, one, other):
        """Makes two kinds the same; False if no finite kinds are."""
        pending = [(one, other)]
        changed = False
        while pending:
            first, second = pending.pop()
            first = self.root(first)
            second = self.root(second)
            if first == second:
                continue
            if not self.is_open(first) and not self.is_open(second):
                if not self.is_alike(first, second):
                    return False
                pending.extend(list(zip(self.inner[first], self.inner[second])))
            changed = True
            if self.is_open(first):
                self.joined[first] = second
            else:
                self.joined[second] = first
        return not changed or self.below([one]) is not None

    def is_alike(self, first, second):
        same_label = self.labels[first] == self.labels[second]
        return same_label and len(self.inner[first]) == len(self.inner[second])

    def below(self, nodes):
        """The list of all roots that stand in these kinds, each behind those in it.

        Roots without others in them come in the sequence in which they first stand.
        None if a kind stands inside of itself.
        """
        order = []
        left = {}
        pending = [(node, False) for node in reversed(nodes)]
        while pending:
            node, leaving = pending.pop()
            root = self.root(node)
            if leaving:
                left[root] = True
                order.append(root)
            elif root not in left:
                left[root] = False
                pending.append((root, True))
                for inner in reversed(self.inner[root]):
                    pending.append((inner, False))
            elif not left[root]:
                return None
        return order

    def open_below(self, nodes):
        """The list of the open kinds in these kinds, as they first stand in them."""
        return [root for root in self.below(nodes) if self.is_open(root)]

    def copied(self, node, news):
        """The kind with others in the places of some roots, by the dict news."""
        copies = dict(news)
        for root in self.below([node]):
            if root not in copies:
                old = [self.root(inner) for inner in self.inner[root]]
                new = [copies[inner] for inner in old]
                copies[root] = root if new == old else self.new_node(self.labels[root], new)
        return copies[self.root(node)]

    def measured(self, node):
        """(how many nodes, how deep) of the kind when it is written out."""
        parts = {}
        depths = {}
        for root in self.below([node]):
            inner = [self.root(part) for part in self.inner[root]]
            parts[root] = 1 + sum([parts[part] for part in inner])
            depths[root] = 1 + max([0] + [depths[part] for part in inner])
        top = self.root(node)
        return (parts[top], depths[top])

    def told(self, node, leaf):
        """The found kind, leaf(root, label) being that of an open kind or a variable."""
        kinds = {}
        for root in self.below([node]):
            label = self.labels[root]
            inner = tuple([kinds[self.root(part)] for part in self.inner[root]])
            if label is None or label[0] == "free":
                kinds[root] = leaf(root, label)
            else:
                kinds[root] = made_kind(label[0], label[1], inner)
        return kinds[self.root(node)]
