"""The examples of the document's part 1, as they stand there, and those of README.md."""

import doctest
import pathlib
import unittest

README = pathlib.Path(__file__).parent.parent / "README.md"
DOCUMENT = r"""
    >>> from layeredwords.seeing import see
    >>> from layeredwords.comparing import apart
    >>> low = "[net]\nhosts = a, b   # both\nport ?= 80\n"
    >>> high = "[net]\nhosts += c\nwhen place is home\nhosts -= b\nend\n"
    >>> see((low, high), (("place", "home"),), "net.hosts")
    ('a', 'c')
    >>> see((low, high), (), "net.hosts")
    ('a', 'b', 'c')
    >>> apart(("x = a\nx += b\n",), ("x = a, b\n",)) is None
    True
    >>> apart(("x += b\n",), ("x ?= b\n",))
    ((), 'x', 'below', 'x =\n', ('b',), ())
"""


class Examples(unittest.TestCase):
    def runs(self, text, name):
        test = doctest.DocTestParser().get_doctest(text, {}, name, name, 0)
        self.assertGreater(len(test.examples), 5)
        result = doctest.DocTestRunner(verbose=False).run(test)
        self.assertEqual(result.failed, 0)

    def test_document(self):
        self.runs(DOCUMENT, "part 1")

    def test_readme(self):
        self.runs(README.read_text(), "README.md")


if __name__ == "__main__":
    unittest.main()
