"""[12] and [13]: the errors, their bases and their attributes."""

import unittest

from layeredwords.errors import BadLine, BadSyntax, BadValue, LayerError, TooMany


class Errors(unittest.TestCase):
    def test_bases(self):
        self.assertEqual(LayerError.__bases__, (Exception,))
        for error in (BadValue, BadLine, TooMany, BadSyntax):
            with self.subTest(error=error.__name__):
                self.assertEqual(error.__bases__, (LayerError,))

    def test_each_is_its_own_class(self):
        self.assertEqual(len({BadValue, BadLine, TooMany, BadSyntax, LayerError}), 5)

    def test_defined_in_errors(self):
        for error in (LayerError, BadValue, BadLine, TooMany, BadSyntax):
            self.assertEqual(error.__module__, "layeredwords.errors")

    def test_bad_value(self):
        with self.assertRaises(LayerError) as caught:
            raise BadValue(3)
        self.assertEqual(caught.exception.at, 3)
        self.assertEqual(BadValue(at=1).at, 1)

    def test_bad_line(self):
        with self.assertRaises(LayerError) as caught:
            raise BadLine(2, 7)
        self.assertEqual((caught.exception.layer, caught.exception.at), (2, 7))
        named = BadLine(at=5, layer=4)
        self.assertEqual((named.layer, named.at), (4, 5))

    def test_too_many(self):
        for word in ("layers", "lines", "readers", "clashes"):
            with self.assertRaises(LayerError) as caught:
                raise TooMany(word)
            self.assertEqual(caught.exception.word, word)
        self.assertEqual(TooMany(word="lines").word, "lines")

    def test_bad_syntax(self):
        for at in (0, 12):
            with self.assertRaises(LayerError) as caught:
                raise BadSyntax(at)
            self.assertEqual(caught.exception.at, at)
        self.assertEqual(BadSyntax(at=2).at, 2)

    def test_attributes_belong_to_the_object(self):
        first, second = BadValue(1), BadValue(2)
        self.assertEqual((first.at, second.at), (1, 2))
        self.assertEqual(BadLine(0, 1).__dict__, {"layer": 0, "at": 1})


if __name__ == "__main__":
    unittest.main()
