"""The interface of mirrorsums/errors.py."""

import unittest

from mirrorsums.errors import MirrorError
from tests.plain import REFUSALS


class Errors(unittest.TestCase):

    def test_any_refusal_is_a_value_error(self):
        self.assertTrue(issubclass(MirrorError, ValueError))

    def test_each_refusal_stands_under_mirror_error(self):
        for refusal in REFUSALS:
            with self.subTest(refusal=refusal.__name__):
                self.assertTrue(issubclass(refusal, MirrorError))
                self.assertIsNot(refusal, MirrorError)

    def test_none_stands_under_another(self):
        for refusal in REFUSALS:
            for other in REFUSALS:
                with self.subTest(refusal=refusal.__name__, other=other.__name__):
                    self.assertEqual(refusal.__name__ == other.__name__, issubclass(refusal, other))

    def test_names(self):
        self.assertEqual(
            ["NoBase", "NoNumber", "NoMirror", "NoPlace", "NoWay", "NoText", "NoCommand"],
            [refusal.__name__ for refusal in REFUSALS])


if __name__ == "__main__":
    unittest.main()
