"""The document's example, row by row, as far as it has landed. The rows are one session."""

import doctest
import unittest

ROWS = '''
>>> from landedback.programs import Program
>>> from landedback.statements import cells_in, made, read
>>> tidy = [("free", "p"), ("clear", "p")]
>>> body = [("clear", "p"), ("mark", "m", [], tidy), ("get", "p"), ("either", [[("jump", "m")], []])] + tidy
>>> plan = Program({"main": ([], body, "p")})
>>> [plan.names("main"), plan.cells()]
[['p'], ['m']]
>>> [made(("take", "p", "q")), read(body[1])]
['p', []]
>>> [cells_in(body[3]), plan.with_kept([("main", "p")]).loose_names("main")]
[['m'], []]
'''


class Example(unittest.TestCase):

    def test_rows(self):
        rows = doctest.DocTestParser().get_doctest(ROWS, {}, "example", None, None)
        told = []
        result = doctest.DocTestRunner(verbose=False).run(rows, out=told.append)
        self.assertEqual(result.failed, 0, "".join(told))
        self.assertGreater(result.attempted, 7)


if __name__ == "__main__":
    unittest.main()
