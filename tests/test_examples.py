"""The examples of the document for the modules that are there, to the letter."""

import doctest
import pathlib
import unittest

README = pathlib.Path(__file__).resolve().parent.parent / "README.md"

ROWS = """
>>> from undertwo.rows import cells_from, density, least_row, mean, round_of, same, turned
>>> cells_from((3, 1), 0, 9), cells_from((3, 1), 10 ** 30, 4)
((1, 0, 0, 1, 1, 0, 0, 1, 1), (1, 0, 0, 1))
>>> round_of((3, 1)), mean((3, 1)), mean((3, 1, 1)), density((3, 1, 1))
(4, (2, 1), (5, 3), (3, 5))
>>> density(()), cells_from((), 5, 3)
((0, 1), (0, 0, 0))
>>> turned((1, 2, 4)), least_row((3, 1, 3, 1)), least_row((2, 2))
((4, 2, 1), (1, 3), (2,))
>>> same((3, 1), (1, 3, 1, 3)), same((1, 2, 4), (4, 2, 1))
(True, False)
"""

VIEWS = """
>>> from undertwo.views import alone, blank, owned, views
>>> views(3, (3, 1))
((0, 0, 1), (0, 1, 1), (1, 0, 0), (1, 1, 0))
>>> views(3, (2,)), views(2, ())
(((0, 1, 0), (1, 0, 1)), ((0, 0),))
>>> owned(3, (3, 1)), alone(3, (3, 1)), alone(3, (2,))
(((1, 1), (3, 3)), (1, 3), (2,))
>>> owned(6, (6, 2)), alone(6, (6, 2))
(((1, 2), (5, 6)), (1, 2, 5, 6))
>>> owned(3, (1, 1)), blank(3, (3, 1)), blank(3, (4,)), owned(3, (9,))
((None, None), False, True, ((1, 3),))
"""

APART = """
>>> from undertwo.apart import apart, clear, shared
>>> apart(3, ((2,), (3, 1))), clear(3, ((2,), (3, 1))), clear(3, ((2,), ()))
(True, True, False)
>>> shared(3, ((2,), (3, 1), (2, 2, 3)))
(0, 2, (0, 1, 0))
>>> shared(3, ()), shared(3, ((), (4,)))
(None, (0, 1, (0, 0, 0)))
"""

THICK = """
>>> from undertwo.thick import edge, fits, least_density, most, spare, thickness
>>> thickness(6, (6, 2)), thickness(6, (3,)), thickness(4, (1, 2, 2))
(2, 0, 0)
>>> spare(3, (1, 1)), fits(3, (1, 1)), spare(5, (2, 2))
(0, True, -1)
>>> most(15, 2), least_density(15, 2), least_density(2, 2)
(5, (1, 10), None)
>>> edge(5, 2), edge(7, 2), edge(6, 1)
(((3, 1),), ((3, 2), (5, 1)), ((6,),))
"""

MAKER = """
>>> from undertwo.maker import intervals, thin_rows
>>> intervals(3, (1, 1)), thin_rows(3, (1, 1))
(((2, 2), (1, 1)), ((2,), (3, 1)))
>>> thin_rows(6, (2, 2)), thin_rows(5, (1, 1, 1))
(((4,), (6, 2)), ((3,), (5, 1), (4, 2)))
>>> intervals(9, (1, 3, 2)), thin_rows(9, (1, 3, 2))
(((1, 1), (4, 6), (2, 3)), ((9, 1), (6,), (8, 3)))
"""

ACCOUNT = """
>>> from undertwo.account import account, middle_row, sides
>>> account(3, ((2,), (3, 1)))
((1, 1, 'middle'), (1, 2, 'sides'))
>>> middle_row(6, ((6, 2), (3, 3), (4,))), middle_row(6, ((6, 2), ()))
(2, None)
>>> sides(6, (6, 2)), sides(6, (6, 2, 5, 1)), sides(6, (4,))
((2, 2), (2, 1), (0, 0))
"""

READER = """
>>> from undertwo.reader import find
>>> find(3, ((2,), (3, 1)), (1, 0, 1)), find(3, ((2,), (3, 1)), (1, 1, 0)), find(3, ((2,), (3, 1)), (1, 1, 1))
((0, 0), (1, 3), None)
"""

SHARES = """
>>> from undertwo.shares import cheapest
>>> cheapest(6, (1, 1, 4))
((17, 35), 2, (1, 4, 0))
>>> cheapest(6, (7,)), cheapest(4, (0, 5))
(((0, 1), 0, (0,)), ((0, 1), 1, (1, 0)))
"""

MACHINES = """
>>> from undertwo.machines import first_run, flipped, is_machine, lets, made_word, trimmed
>>> third = (2, 4, (0,), (3,), ((0, 0, 0), (0, 0, 1), (0, 1, 0), (1, 0, 2), (1, 1, 2), (2, 0, 3), (2, 1, 3)))
>>> (is_machine(third), is_machine((2, 1, (0,), (0,), ((0, 2, 0),))), made_word(third, (1, 0, 1)))
(True, False, (1, 0, 1))
>>> (lets(third, (0, 1, 1)), lets(third, (1, 1, 1)), lets(third, ()))
(True, False, False)
>>> (first_run(third, (0, 0, 0, 0)), first_run(third, (1,)))
((0, 0, 1, 2, 3), None)
>>> trimmed((1, 3, (0, 1), (0,), ((0, 0, 2), (1, 0, 0))))
(1, 2, (0, 1), (0,), ((1, 0, 0),))
>>> flipped((1, 2, (0,), (1,), ((0, 0, 0), (0, 0, 1))))
(1, 2, (1,), (0,), ((0, 0, 0), (1, 0, 0)))
"""

SURE = """
>>> from undertwo.machines import flipped
>>> from undertwo.sure import alike, classes, part_word, sure_of, way_to, within
>>> third = (2, 4, (0,), (3,), ((0, 0, 0), (0, 0, 1), (0, 1, 0), (1, 0, 2), (1, 1, 2), (2, 0, 3), (2, 1, 3)))
>>> (sure_of(third)[1:4], classes(third), way_to(third, 3), way_to(third, 5))
((8, (0,), (4, 5, 6, 7)), 8, (0, 1), (0, 0, 1))
>>> sure_of((1, 2, (0,), (1,), ((0, 0, 1),)))
(1, 3, (0,), (1,), ((0, 0, 1), (1, 0, 2), (2, 0, 2)))
>>> (sure_of((1, 0, (), (), ())), classes((1, 2, (0,), (1,), ((0, 0, 1),))))
((1, 1, (0,), (), ((0, 0, 0),)), 2)
>>> (part_word(third, flipped(third)), alike(third, third), within(third, sure_of(third)))
((0, 0, 1), True, True)
"""


class Examples(unittest.TestCase):

    def check(self, text):
        self.assertEqual(text.count(">>> ") > 1, True)
        told = []
        test = doctest.DocTestParser().get_doctest(text, {}, "DOC.md", None, None)
        done = doctest.DocTestRunner(verbose=False).run(test, out=told.append)
        self.assertEqual(done.failed, 0, "".join(told))
        self.assertEqual(done.attempted, text.count(">>> "))

    def test_rows(self):
        self.check(ROWS)

    def test_views(self):
        self.check(VIEWS)

    def test_apart(self):
        self.check(APART)

    def test_thick(self):
        self.check(THICK)

    def test_maker(self):
        self.check(MAKER)

    def test_account(self):
        self.check(ACCOUNT)

    def test_reader(self):
        self.check(READER)

    def test_shares(self):
        self.check(SHARES)

    def test_machines(self):
        self.check(MACHINES)

    def test_sure(self):
        self.check(SURE)

    def test_the_examples_of_the_readme(self):
        parts = README.read_text(encoding="utf-8").split("```")[1::2]
        for part in parts:
            if ">>> " in part:
                self.check(part.lstrip())


if __name__ == "__main__":
    unittest.main()
