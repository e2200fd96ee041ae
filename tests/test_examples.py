"""Runs the examples of the document that stand in examples.md."""

import pathlib
import re
import unittest

import spareskept.errors
from tests import values

EXAMPLES = pathlib.Path(__file__).with_name('examples.md')
START = {name: getattr(values, name) for name in ('R', 'E', 'T', 'S', 'Q')}


def read_examples():
    """Return pairs (lines of code, expected text), one for each block of the file."""
    blocks = re.findall(r'^```\n(.*?)^```$', EXAMPLES.read_text(encoding='utf-8'), re.MULTILINE | re.DOTALL)
    examples = []
    for block in blocks:
        lines = block.splitlines()
        code = [line[4:] for line in lines if line.startswith('>>> ')]
        examples.append((code, '\n'.join(line for line in lines if not line.startswith('>>> '))))
    return examples


def prepare(code):
    """Run all lines but the last one; return what is known then."""
    known = dict(START)
    for line in code[:-1]:
        exec(line, known)
    return known


class ExamplesTest(unittest.TestCase):
    def check_error(self, code, expected):
        kind, attribute, value = re.fullmatch(r'raises (\w+)(?:\((\w+)=(.*)\))?', expected).groups()
        known = prepare(code)
        with self.assertRaises(getattr(spareskept.errors, kind)) as caught:
            eval(code[-1], known)
        self.assertIs(caught.exception.__class__, getattr(spareskept.errors, kind))
        if attribute:
            self.assertEqual(repr(getattr(caught.exception, attribute)), value)

    def test_examples(self):
        examples = read_examples()
        self.assertEqual(len(examples), 99)
        for code, expected in examples:
            with self.subTest(code=code):
                self.assertTrue(code and expected)
                if expected.startswith('raises '):
                    self.check_error(code, expected)
                else:
                    self.assertEqual(repr(eval(code[-1], prepare(code))), expected)


if __name__ == '__main__':
    unittest.main()
