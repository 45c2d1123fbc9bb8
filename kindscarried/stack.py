"""What runs that go without recursion have in common."""


class Stack:
    """What is still to be done lies on one stack, and the worths so far on another one.

    So calls within calls, however many, take no recursion. A task is a tuple that
    its run understands; letters are the integers said so far, and beats how many
    are left.
    """

    def __init__(self, beats):
        self.beats = beats
        self.letters = []
        self.tasks = []
        self.worths = []

    def put(self, worth):
        self.worths.append(worth)

    def take(self, many):
        """The last worths, as a list, which are gone from the stack."""
        start = len(self.worths) - many
        worths = self.worths[start:]
        del self.worths[start:]
        return worths

    def take_last(self):
        return self.worths.pop()

    def spent(self):
        return ("spent", tuple(self.letters))

    def ended(self, number):
        return ("done", number, tuple(self.letters))
