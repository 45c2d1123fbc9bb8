"""Registers that all get what words are worth, as if at once."""

from kindscarried.words import innermost, with_innermost


def moved_at_once(pending, spare):
    """The list of rows that leave in each of these registers what its word was worth ahead of all of them."""
    return Moves(pending, spare).told()


class Moves:
    """Moves that are still to be done.

    words leads from each register still to be written to its word, readers from each
    register to the list of those whose words read it, ready is the list of those that
    no other word reads.
    """

    def __init__(self, pending, spare):
        self.spare = spare
        self.words = {}
        self.readers = {}
        for target, word in pending:
            if word != ("register", target):
                self.words[target] = word
        for target, word in self.words.items():
            sort, source = innermost(word)
            if sort == "register" and source != target:
                self.readers.setdefault(source, []).append(target)
        self.ready = [target for target in self.words if target not in self.readers]
        self.rows = []

    def told(self):
        self.do_ready()
        # What is left are rings, each register in which just one word reads.
        for target in list(self.words):
            if target in self.words:
                self.rows.append(("move", self.spare, ("register", target)))
                for reader in self.readers.pop(target):
                    self.words[reader] = with_innermost(self.words[reader], ("register", self.spare))
                self.ready.append(target)
                self.do_ready()
        return self.rows

    def do_ready(self):
        while self.ready:
            target = self.ready.pop()
            word = self.words.pop(target)
            self.rows.append(("move", target, word))
            sort, source = innermost(word)
            if sort == "register" and source in self.readers:
                self.readers[source].remove(target)
                if not self.readers[source]:
                    self.readers.pop(source)
                    if source in self.words:
                        self.ready.append(source)
