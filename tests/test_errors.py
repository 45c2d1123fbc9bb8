import unittest

from kindscarried import errors

ONE_STRING = ("InvalidKind", "InvalidCount", "InvalidPart", "Refused")
FIELDS = {
    "InvalidText": "index", "InvalidOctets": "index", "InvalidPaper": "index", "IllKinded": "place",
    "Stuck": "place", "Unfit": "place", "Clash": "places", "Unknown": "word", "NotMet": "word",
    "Twice": "word", "TooMany": "count", "InvalidCommand": "index",
}


class Errors(unittest.TestCase):
    def test_each_stands_directly_under_carried_error(self):
        self.assertEqual(errors.CarriedError.__bases__, (ValueError,))
        for name in ONE_STRING + tuple(FIELDS):
            self.assertEqual(getattr(errors, name).__bases__, (errors.CarriedError,), name)

    def test_nothing_else_is_an_error_there(self):
        classes = [name for name, value in vars(errors).items() if isinstance(value, type)]
        self.assertEqual(sorted(classes), sorted(ONE_STRING + tuple(FIELDS) + ("CarriedError",)))

    def test_made_with_one_free_string(self):
        for name in ONE_STRING:
            error = getattr(errors, name)("some words")
            self.assertIsInstance(error, ValueError)
            self.assertIn("some words", str(error))

    def test_keeps_the_very_value(self):
        for value in (0, -7, 10 ** 89, None, True, "text", (), (1, (2,)), [1, [2]], {"a": 1}):
            for name, field in FIELDS.items():
                by_position = getattr(errors, name)(value)
                by_name = getattr(errors, name)(**{field: value})
                self.assertIs(getattr(by_position, field), value)
                self.assertIs(getattr(by_name, field), value)
                str(by_position), repr(by_position), str(by_name), repr(by_name)

    def test_fields_of_two_do_not_meet(self):
        one, other = errors.Clash(((), (0,))), errors.Clash(((1,), (2,)))
        self.assertEqual((one.places, other.places), (((), (0,)), ((1,), (2,))))


if __name__ == "__main__":
    unittest.main()
