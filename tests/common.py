"""What several tests use."""

import unittest


class Case(unittest.TestCase):
    def fails(self, error, field, wanted, call, *args, **named):
        """The call raises just this error; its field, if any, has just the wanted value."""
        with self.assertRaises(error) as caught:
            call(*args, **named)
        self.assertIs(type(caught.exception), error)
        if field is not None:
            value = getattr(caught.exception, field)
            self.assertEqual(value, wanted)
            self.assertIs(type(value), type(wanted))


def nested(word, times, inner, *behind):
    """inner within so many tuples (word, .., ..)."""
    for _ in range(times):
        inner = (word, inner) + behind
    return inner


STRANGE = (None, True, False, 0, -1, 5, 10 ** 89, "", "int", "x", (), [], ("int",), [("int",)], ((),), (None,), ([],),
           ("",), (5, 5), (("int",), ("int",)), ("int", 5, 5), (["int"],), ("nothing",), (True, False), ((((),),),))
