import copy
import unittest

from gridframe.errors import BadDrawing, BadPlain, BadTable, Crossing, GridError, TooBig, TooSmall, TooTall

PLAIN = (TooBig, TooSmall, BadDrawing, BadPlain)
WITH_AT = (BadTable, Crossing, TooTall)


def samples():
    return [made() for made in PLAIN] + [made(3) for made in WITH_AT]


class Errors(unittest.TestCase):
    def test_each_is_taken_by_grid_error_and_by_value_error(self):
        self.assertTrue(issubclass(GridError, ValueError))
        for error in samples():
            for taker in (GridError, ValueError):
                with self.subTest(error=repr(error), taker=taker):
                    with self.assertRaises(taker):
                        raise error

    def test_none_is_taken_by_another(self):
        for one in PLAIN + WITH_AT:
            self.assertEqual(one.__bases__, (GridError,))
            for other in PLAIN + WITH_AT:
                if one is not other:
                    self.assertFalse(issubclass(one, other))

    def test_the_field_at_is_set_when_made(self):
        for made in WITH_AT:
            for at in (None, 0, 7):
                self.assertEqual(made(at).at, at)
                self.assertEqual(made(at=at).at, at)
                self.assertEqual(copy.copy(made(at)).at, at)

    def test_at_must_be_told(self):
        for made in WITH_AT:
            with self.assertRaises(TypeError):
                made()

    def test_words_are_taken(self):
        for made in PLAIN + (GridError,):
            self.assertEqual(str(made("too much")), "too much")


if __name__ == "__main__":
    unittest.main()
