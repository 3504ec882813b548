"""The examples of the document for the modules that are there, to the letter."""

import doctest
import pathlib
import unittest

README = pathlib.Path(__file__).resolve().parent.parent / "README.md"

ROWS = """
>>> from undertwo.rows import cells_from, density, least_row, mean, round_of, same, turned
>>> cells_from((3, 1), 0, 9), cells_from((3, 1), 10 ** 30, 4)
((1, 0, 0, 1, 1, 0, 0, 1, 1), (1, 0, 0, 1))
>>> round_of((3, 1)), mean((3, 1)), mean((3, 1, 1)), density((3, 1, 1))
(4, (2, 1), (5, 3), (3, 5))
>>> density(()), cells_from((), 5, 3)
((0, 1), (0, 0, 0))
>>> turned((1, 2, 4)), least_row((3, 1, 3, 1)), least_row((2, 2))
((4, 2, 1), (1, 3), (2,))
>>> same((3, 1), (1, 3, 1, 3)), same((1, 2, 4), (4, 2, 1))
(True, False)
"""

VIEWS = """
>>> from undertwo.views import alone, blank, owned, views
>>> views(3, (3, 1))
((0, 0, 1), (0, 1, 1), (1, 0, 0), (1, 1, 0))
>>> views(3, (2,)), views(2, ())
(((0, 1, 0), (1, 0, 1)), ((0, 0),))
>>> owned(3, (3, 1)), alone(3, (3, 1)), alone(3, (2,))
(((1, 1), (3, 3)), (1, 3), (2,))
>>> owned(6, (6, 2)), alone(6, (6, 2))
(((1, 2), (5, 6)), (1, 2, 5, 6))
>>> owned(3, (1, 1)), blank(3, (3, 1)), blank(3, (4,)), owned(3, (9,))
((None, None), False, True, ((1, 3),))
"""

APART = """
>>> from undertwo.apart import apart, clear, shared
>>> apart(3, ((2,), (3, 1))), clear(3, ((2,), (3, 1))), clear(3, ((2,), ()))
(True, True, False)
>>> shared(3, ((2,), (3, 1), (2, 2, 3)))
(0, 2, (0, 1, 0))
>>> shared(3, ()), shared(3, ((), (4,)))
(None, (0, 1, (0, 0, 0)))
"""

THICK = """
>>> from undertwo.thick import edge, fits, least_density, most, spare, thickness
>>> thickness(6, (6, 2)), thickness(6, (3,)), thickness(4, (1, 2, 2))
(2, 0, 0)
>>> spare(3, (1, 1)), fits(3, (1, 1)), spare(5, (2, 2))
(0, True, -1)
>>> most(15, 2), least_density(15, 2), least_density(2, 2)
(5, (1, 10), None)
>>> edge(5, 2), edge(7, 2), edge(6, 1)
(((3, 1),), ((3, 2), (5, 1)), ((6,),))
"""

MAKER = """
>>> from undertwo.maker import intervals, thin_rows
>>> intervals(3, (1, 1)), thin_rows(3, (1, 1))
(((2, 2), (1, 1)), ((2,), (3, 1)))
>>> thin_rows(6, (2, 2)), thin_rows(5, (1, 1, 1))
(((4,), (6, 2)), ((3,), (5, 1), (4, 2)))
>>> intervals(9, (1, 3, 2)), thin_rows(9, (1, 3, 2))
(((1, 1), (4, 6), (2, 3)), ((9, 1), (6,), (8, 3)))
"""

ACCOUNT = """
>>> from undertwo.account import account, middle_row, sides
>>> account(3, ((2,), (3, 1)))
((1, 1, 'middle'), (1, 2, 'sides'))
>>> middle_row(6, ((6, 2), (3, 3), (4,))), middle_row(6, ((6, 2), ()))
(2, None)
>>> sides(6, (6, 2)), sides(6, (6, 2, 5, 1)), sides(6, (4,))
((2, 2), (2, 1), (0, 0))
"""

READER = """
>>> from undertwo.reader import find
>>> find(3, ((2,), (3, 1)), (1, 0, 1)), find(3, ((2,), (3, 1)), (1, 1, 0)), find(3, ((2,), (3, 1)), (1, 1, 1))
((0, 0), (1, 3), None)
"""

SHARES = """
>>> from undertwo.shares import cheapest
>>> cheapest(6, (1, 1, 4))
((17, 35), 2, (1, 4, 0))
>>> cheapest(6, (7,)), cheapest(4, (0, 5))
(((0, 1), 0, (0,)), ((0, 1), 1, (1, 0)))
"""

MACHINES = """
>>> from undertwo.machines import first_run, flipped, is_machine, lets, made_word, trimmed
>>> third = (2, 4, (0,), (3,), ((0, 0, 0), (0, 0, 1), (0, 1, 0), (1, 0, 2), (1, 1, 2), (2, 0, 3), (2, 1, 3)))
>>> (is_machine(third), is_machine((2, 1, (0,), (0,), ((0, 2, 0),))), made_word(third, (1, 0, 1)))
(True, False, (1, 0, 1))
>>> (lets(third, (0, 1, 1)), lets(third, (1, 1, 1)), lets(third, ()))
(True, False, False)
>>> (first_run(third, (0, 0, 0, 0)), first_run(third, (1,)))
((0, 0, 1, 2, 3), None)
>>> trimmed((1, 3, (0, 1), (0,), ((0, 0, 2), (1, 0, 0))))
(1, 2, (0, 1), (0,), ((1, 0, 0),))
>>> flipped((1, 2, (0,), (1,), ((0, 0, 0), (0, 0, 1))))
(1, 2, (1,), (0,), ((0, 0, 0), (1, 0, 0)))
"""

SURE = """
>>> from undertwo.machines import flipped
>>> from undertwo.sure import alike, classes, part_word, sure_of, way_to, within
>>> third = (2, 4, (0,), (3,), ((0, 0, 0), (0, 0, 1), (0, 1, 0), (1, 0, 2), (1, 1, 2), (2, 0, 3), (2, 1, 3)))
>>> (sure_of(third)[1:4], classes(third), way_to(third, 3), way_to(third, 5))
((8, (0,), (4, 5, 6, 7)), 8, (0, 1), (0, 0, 1))
>>> sure_of((1, 2, (0,), (1,), ((0, 0, 1),)))
(1, 3, (0,), (1,), ((0, 0, 1), (1, 0, 2), (2, 0, 2)))
>>> (sure_of((1, 0, (), (), ())), classes((1, 2, (0,), (1,), ((0, 0, 1),))))
((1, 1, (0,), (), ((0, 0, 0),)), 2)
>>> (part_word(third, flipped(third)), alike(third, third), within(third, sure_of(third)))
((0, 0, 1), True, True)
"""

PRICES = """
>>> from undertwo.prices import code_size, law_price, long_price, price, sure_from
>>> price(4, 2), price(15, 3), price(16, 3), price(9, 1), long_price(2), long_price(4)
((1, 4), (1, 10), (2, 21), (0, 1), (1, 1), (5, 3))
>>> [code_size(rooms) for rooms in range(7)], [sure_from(rooms) for rooms in range(6)]
([0, 0, 1, 2, 3, 3, 4], [1, 1, 4, 15, 30, 42])
>>> EVEN = (1, 2, (0,), (0,), ((0, 0, 1), (1, 0, 0)))
>>> law_price(EVEN, 4), law_price(EVEN, 20)
((1, 4), (1, 20))
"""

PLANS = """
>>> from undertwo.plans import code, plan, shortest, stretch
>>> plan(4, 2), plan(15, 3), plan(9, 1)
((('middle', 1, 4),), (('middle', 6, 10), ('side', 5, 15)), ())
>>> plan(30, 4)
(('middle', 13, 18), ('side', 6, 30), ('side', 12, 24))
>>> code(2, 1), code(3, 1), code(3, 2), code(5, 3)
((1,), (1, 0), (1, 1), (1, 0, 1))
>>> shortest(4, 2), shortest(15, 3), shortest(30, 4), shortest(7, 1)
(12, 110, 380, 21)
>>> stretch(4, 2, 1, 12), stretch(4, 2, 0, 13)
((1, 1, 1, 0, 0, 0, 1, 0, 0, 0, 1, 1), (0, 0, 0, 0, 0, 0, 0, 0, 0, 0, 0, 0, 0))
>>> stretch(4, 2, 1, 13)
(1, 1, 0, 1, 0, 0, 0, 1, 0, 0, 0, 1, 1)
"""

LINES = """
>>> from undertwo.lines import bare, dots_in, sizes, stations, undotted
>>> bare((0, 2), (2, 1, 0)), bare((), (3,))
((0, 0, 3, 0, 5), (0, 0, 0))
>>> stations((1, 0, 3, 0, 5)), sizes((1, 0, 3, 0, 5)), dots_in((1, 0, 3, 0, 5))
((0, 2), (2, 1, 0), (1, 0, 0))
>>> undotted((1, 0, 3, 0, 5)), sizes(()), stations(())
((0, 0, 3, 0, 5), (0,), ())
"""

PAINTER = """
>>> from undertwo.lines import dots_in
>>> from undertwo.painter import bound, paint
>>> EVEN = (1, 2, (0,), (0,), ((0, 0, 1), (1, 0, 0)))
>>> paint(EVEN, 4, (), (12,))
(0, 0, 0, 0, 0, 0, 0, 0, 0, 0, 0, 0)
>>> LINE = paint(EVEN, 4, (0, 0), (12, 13, 14))
>>> len(LINE), LINE[12:27], dots_in(LINE)
(41, (3, 1, 1, 0, 1, 0, 0, 0, 1, 0, 0, 0, 1, 1, 3), (0, 6, 0))
>>> bound(4, 2, 12), bound(4, 2, 15), bound(4, 2, 16), bound(7, 1, 21)
(6, 6, 7, 0)
"""

INSPECTORS = """
>>> from undertwo.inspectors import first_no, is_inspector, passes, words_of
>>> from undertwo.madewords import inspector
>>> even = (1, 2, (0,), (0,), ((0, 0, 1), (1, 0, 0)))
>>> one = inspector(even, 4)
>>> one[:2], len(one[2]), one[2][:3], one[2][-1]
((4, 12), 56, ((0, 0, 0, 0, 0), (0, 0, 0, 0, 2), (0, 0, 0, 0, 3)), (3, 1, 1, 1, 1))
>>> passes(one, (0,) * 12), first_no(one, (0,) * 12 + (3,) + (0,) * 12), first_no(one, ())
(True, 13, 0)
>>> words_of(2, (0, 3)), words_of(1, ())
(((0, 3, 2), (2, 0, 3), (2, 2, 0), (3, 2, 2)), ((2, 2),))
>>> is_inspector((1, 2, ((0, 0), (0, 3)))), is_inspector((1, 1, ())), is_inspector((1, 2, ((0, 3), (0, 0))))
(True, False, False)
"""

JOINING = """
>>> from undertwo.joining import behind, both, butnot, either, opposite, repeated
>>> some = (2, 2, (0,), (1,), ((0, 0, 1),))
>>> other = (2, 2, (0,), (1,), ((0, 1, 1),))
>>> either(some, other)
(2, 3, (0,), (1,), ((0, 0, 1), (0, 1, 1), (1, 0, 2), (1, 1, 2), (2, 0, 2), (2, 1, 2)))
>>> (both(some, other), butnot(some, other) == either(some, some))
((2, 1, (0,), (), ((0, 0, 0), (0, 1, 0))), True)
>>> behind(some, other)
(2, 4, (0,), (3,), ((0, 0, 1), (0, 1, 2), (1, 0, 2), (1, 1, 3), (2, 0, 2), (2, 1, 2), (3, 0, 2), (3, 1, 2)))
>>> repeated(some)
(2, 2, (0,), (0,), ((0, 0, 0), (0, 1, 1), (1, 0, 1), (1, 1, 1)))
>>> opposite(repeated(either(some, other)))
(2, 1, (0,), (), ((0, 0, 0), (0, 1, 0)))
"""

RECTS = """
>>> from undertwo.rects import rect_machine, rects
>>> even = (1, 2, (0,), (0,), ((0, 0, 1), (1, 0, 0)))
>>> third = (2, 4, (0,), (3,), ((0, 0, 0), (0, 0, 1), (0, 1, 0), (1, 0, 2), (1, 1, 2), (2, 0, 3), (2, 1, 3)))
>>> (rects(even), rects((1, 1, (0,), (), ())), rects(third)[:4])
(((0,), (1,)), (), ((4,), (2, 4), (4, 5), (4, 6)))
>>> rects(third)[4:]
((1, 2, 4, 6), (2, 3, 4, 5), (4, 5, 6, 7), (0, 1, 2, 3, 4, 5, 6, 7))
>>> (rect_machine(even, (0, 1)) == even, rect_machine(even, (1,)), rect_machine(third, (7,)))
(True, (1, 1, (), (), ()), (2, 1, (0,), (), ((0, 0, 0), (0, 1, 0))))
"""

LEASTROOMS = """
>>> from undertwo.leastrooms import least_lot, least_machine, least_rooms
>>> even = (1, 2, (0,), (0,), ((0, 0, 1), (1, 0, 0)))
>>> third = (2, 4, (0,), (3,), ((0, 0, 0), (0, 0, 1), (0, 1, 0), (1, 0, 2), (1, 1, 2), (2, 0, 3), (2, 1, 3)))
>>> (least_lot(even), least_machine(even) == even, least_lot(third), least_rooms(third))
((0, 1), True, (4, 5, 6, 7), 4)
>>> least_machine(third)[:4]
(2, 4, (3,), (2,))
>>> least_machine(third)[4][:8]
((0, 0, 0), (0, 0, 1), (0, 0, 3), (0, 1, 1), (0, 1, 3), (1, 0, 0), (1, 0, 2), (1, 0, 3))
>>> least_machine(third)[4][8:]
((1, 1, 2), (1, 1, 3), (2, 0, 0), (2, 0, 3), (2, 1, 3), (3, 0, 0), (3, 0, 3), (3, 1, 3))
>>> (least_machine((1, 1, (0,), (), ())), least_rooms((2, 2, (0, 1), (0, 1), ((0, 0, 0), (1, 0, 0)))))
((1, 0, (), (), ()), 1)
"""

FOOLS = """
>>> from undertwo.fools import fool_right, fools
>>> even = (1, 2, (0,), (0,), ((0, 0, 1), (1, 0, 0)))
>>> third = (2, 4, (0,), (3,), ((0, 0, 0), (0, 0, 1), (0, 1, 0), (1, 0, 2), (1, 1, 2), (2, 0, 3), (2, 1, 3)))
>>> (fools(even), fools((1, 1, (0,), (), ())))
((((), ()), ((0,), (0,))), ())
>>> fools(third)
(((), (0, 0, 0)), ((0,), (0, 0)), ((0, 0), (0,)), ((0, 0, 0), ()))
>>> (fool_right(third, fools(third)), fool_right(even, (((), ()), ((0,), (0, 0)))), fool_right(even, [((), ())]))
(True, False, False)
>>> (fool_right(even, ()), fool_right(even, (((), ()), ((), ()))))
(True, False)
"""

KNOTS = """
>>> from undertwo.knots import knots, thinnest
>>> free = (2, 4, ((0, 0, 1), (0, 1, 0), (0, 1, 1), (1, 0, 0), (1, 0, 1), (1, 1, 0), (1, 1, 1)))
>>> knots(free), thinnest(free)
((((0, 0), (0, 1), (1, 0), (1, 1)),), ((1, 3),))
>>> turn = (2, 4, ((0, 0, 0), (0, 1, 0), (1, 0, 1), (1, 1, 1)))
>>> knots(turn), thinnest(turn)
((((0, 0),), ((0, 1), (1, 0)), ((1, 1),)), ((0, 1), (1, 2), (1, 1)))
"""

ROUNDS = """
>>> from undertwo.knots import knots, thinnest
>>> from undertwo.rounds import round_right, thin_round
>>> free = (2, 4, ((0, 0, 1), (0, 1, 0), (0, 1, 1), (1, 0, 0), (1, 0, 1), (1, 1, 0), (1, 1, 1)))
>>> knots(free), thinnest(free), thin_round(free, 0)
((((0, 0), (0, 1), (1, 0), (1, 1)),), ((1, 3),), (3,))
>>> round_right(free, 0, (3, 3)), round_right(free, 0, (2,)), round_right(free, 0, (4, 2))
(True, False, False)
>>> turn = (2, 4, ((0, 0, 0), (0, 1, 0), (1, 0, 1), (1, 1, 1)))
>>> knots(turn), thinnest(turn)
((((0, 0),), ((0, 1), (1, 0)), ((1, 1),)), ((0, 1), (1, 2), (1, 1)))
>>> thin_round(turn, 0), thin_round(turn, 1), thin_round(turn, 2)
((), (2,), (1,))
"""

KEPT = """
>>> from undertwo.kept import kept
>>> from undertwo.knots import knots, thinnest
>>> from undertwo.madewords import inspector
>>> one = inspector((1, 2, (0,), (0,), ((0, 0, 1), (1, 0, 0))), 4)
>>> [len(knot) for knot in knots(one)], thinnest(one)
([1, 15], ((0, 1), (1, 4)))
>>> kept(one, 1, (1, 4)), kept(one, 2, (1, 5))
((1, 2, (0,), (0,), ((0, 0, 1), (1, 0, 0))), (2, 1, (0,), (0,), ()))
>>> every = (1, 2, ((0, 0), (0, 2), (0, 3), (2, 0), (3, 0)))
>>> knots(every), kept(every, 1, (0, 1))
((((0,),),), (1, 1, (0,), (0,), ((0, 0, 0),)))
"""

BEST = """
>>> from undertwo.best import best_line
>>> half = (1, 2, ((0, 1), (0, 2), (0, 3), (1, 0), (1, 1), (1, 2), (2, 0), (2, 1), (3, 0)))
>>> best_line(half, (0,), (4, 2)), best_line(half, (), (3,)), best_line(half, (1,), (2, 2))
((0, 1, 1, 0, 3, 0, 1), (0, 1, 0), None)
"""

BREAKER = """
>>> from undertwo.breaker import broken, find_line
>>> half = (1, 2, ((0, 1), (0, 2), (0, 3), (1, 0), (1, 1), (1, 2), (2, 0), (2, 1), (3, 0)))
>>> even = (1, 2, (0,), (0,), ((0, 0, 1), (1, 0, 0)))
>>> broken(half, even, (1, 2))
('passes', (0,), (1, 0, 3, 0, 1))
>>> broken(half, even, (1, 3))
('thick', (), (1, 2), 2)
>>> broken(half, (1, 1, (0,), (0,), ((0, 0, 0),)), (1, 2)) is None
True
>>> find_line(half, (0, 0)), find_line(half, (1,))
((1, 0, 3, 0, 1, 0, 3, 0, 1), None)
"""

TRACK = """
>>> from undertwo.lines import dots_in
>>> from undertwo.seen import room_seen
>>> from undertwo.track import Track
>>> some = (1, 2, (0,), (1,), ((0, 0, 1), (1, 0, 1)))
>>> track = Track(some, 4, (0,), (12, 12))
>>> track.line()[12:]
(3, 1, 1, 1, 0, 0, 0, 1, 0, 0, 0, 1, 1)
>>> track.resize(1, 25), dots_in(track.line())
(1, (0, 9))
>>> track.put(1, 0, 12), track.lengths(), track.rooms(), dots_in(track.line())
(2, (12, 12, 12), (0, 1, 1), (0, 6, 6))
>>> track.drop(0), track.lengths(), dots_in(track.line())
(1, (25, 12), (0, 6))
>>> track.back(), track.back(), track.again()
((0, 0), (0,), (0, 0))
>>> track.line()[19], dots_in(track.wiped(19))
(1, (0, 5, 6))
>>> track.seen(0), track.seen(13), track.seen(21)
(0, 1, 1)
>>> room_seen(some, 5, (0, 1, 0, 0, 1)), room_seen(some, 5, (1, 1, 0, 0, 0)), room_seen(some, 5, (0, 0, 0, 0, 0))
(1, None, 0)
"""

LAWTEXTS = """
>>> from undertwo.lawtexts import made_names, print_machine, read_law, read_machine
>>> made_names(("off", "on"))
('off', 'on')
>>> read_law(("a",), "(a a)*")
(1, 2, (0,), (0,), ((0, 0, 1), (1, 0, 0)))
>>> read_law(("a",), "a?"), read_law(("a",), "!empty")
((1, 3, (0,), (0, 1), ((0, 0, 1), (1, 0, 2), (2, 0, 2))), (1, 2, (0,), (1,), ((0, 0, 1), (1, 0, 1))))
>>> read_law(("a", "b"), "any* a any any")[1:4]
(8, (0,), (4, 5, 6, 7))
>>> read_law(("a", "b"), "!a*|a") == read_law(("a", "b"), "(!(a*)) | a")
True
>>> read_law(("a", "b"), "any*-a|a") == read_law(("a", "b"), "any*")
True
>>> print_machine(("a",), (1, 2, (0,), (0,), ((0, 0, 1), (1, 0, 0))))
'rooms 2; starts 0; ends 0; 0 a 1, 1 a 0'
>>> read_machine(("off", "on"), "rooms 2;starts 1 0;ends -;1 on 0,0 off 1")
(2, 2, (0, 1), (), ((0, 0, 1), (1, 1, 0)))
"""

LINETEXTS = """
>>> from undertwo.linetexts import print_line, read_line
>>> print_line(("a",), (0, 0, 1, 0, 3, 0)), print_line(("a",), ())
('2 o 1 a 1', '-')
>>> read_line(("a", "b"), "1 1 o b 3")
(0, 0, 1, 4, 0, 0, 0)
"""

ROWTEXTS = """
>>> from undertwo.rowtexts import print_rows, read_rows
>>> print_rows(((6, 2), (), (4,))), print_rows(())
('6 2 | dark | 4', 'none')
>>> read_rows("dark|6 2")
((), (6, 2))
"""

INSPECTORTEXTS = """
>>> from undertwo.inspectortexts import print_inspector, read_inspector
>>> print_inspector((1, 2, ((0, 0), (0, 3), (2, 0))))
'k 1 m 2: .. .a #.'
>>> read_inspector("k 1 m 2:#. .a ..")
(1, 2, ((0, 0), (0, 3), (2, 0)))
"""

SESSION = """
>>> from undertwo.session import Session
>>> from undertwo.store import Store, read_store
>>> even = (1, 2, (0,), (0,), ((0, 0, 1), (1, 0, 0)))
>>> store = Store()
>>> store.put("even", ("a",), even), store.put("never", ("a", "b"), (2, 0, (), (), ()))
(None, None)
>>> store.text()
'even (a) rooms 2; starts 0; ends 0; 0 a 1, 1 a 0 | never (a b) rooms 0; starts -; ends -; -'
>>> read_store(store.text()).pair("even") == (("a",), even)
True
>>> store.drop("even"), store.names(), store.back(), store.again()
(None, ('never',), ('even', 'never'), ('never',))
>>> session = Session()
>>> [session.row(row) for row in ["line", "law even (a b) b* (a b* a b*)*", "show even", "least even", "price even 4"]]
['refused: NoTrack 0', 'rooms 2', 'rooms 2; starts 0; ends 0; 0 a 1, 0 b 0, 1 a 0, 1 b 1', 'rooms 2 sure 2 price 1 1 at 4', '1 4']
>>> [session.row(row) for row in ["paint even 4 : 12 a 12", "paint even 4 : 12 o", "paint odd 4 : 12", "paint even 4 : 12 a 12 a 12"]]
['refused: NotLet 0', 'refused: BadText 18', 'refused: NoLaw odd', 'dots 6']
>>> [session.row(row) for row in ["line", "seen 0", "seen 14", "wipe 13"]]
['12 a o o o 3 o 3 o o a 12', 'room 0', 'room 1', 'no 13']
>>> [session.row(row) for row in ["size 1 40", "put 1 b 20", "undo", "redo", "put 0 c 5", "put 0 a 15"]]
['repainted 1', 'repainted 3', 'a a', 'a b a', 'refused: NoName 0', 'refused: BadSize 0']
>>> [session.row(row) for row in ["drop even", "cut 1", "back"]]
['-', 'repainted 2', 'even']
"""


class Examples(unittest.TestCase):

    def check(self, text):
        self.assertEqual(text.count(">>> ") > 1, True)
        told = []
        test = doctest.DocTestParser().get_doctest(text, {}, "DOC.md", None, None)
        done = doctest.DocTestRunner(verbose=False).run(test, out=told.append)
        self.assertEqual(done.failed, 0, "".join(told))
        self.assertEqual(done.attempted, text.count(">>> "))

    def test_rows(self):
        self.check(ROWS)

    def test_views(self):
        self.check(VIEWS)

    def test_apart(self):
        self.check(APART)

    def test_thick(self):
        self.check(THICK)

    def test_maker(self):
        self.check(MAKER)

    def test_account(self):
        self.check(ACCOUNT)

    def test_reader(self):
        self.check(READER)

    def test_shares(self):
        self.check(SHARES)

    def test_machines(self):
        self.check(MACHINES)

    def test_sure(self):
        self.check(SURE)

    def test_prices(self):
        self.check(PRICES)

    def test_plans(self):
        self.check(PLANS)

    def test_lines(self):
        self.check(LINES)

    def test_painter(self):
        self.check(PAINTER)

    def test_inspectors(self):
        self.check(INSPECTORS)

    def test_joining(self):
        self.check(JOINING)

    def test_rects(self):
        self.check(RECTS)

    def test_leastrooms(self):
        self.check(LEASTROOMS)

    def test_fools(self):
        self.check(FOOLS)

    def test_knots(self):
        self.check(KNOTS)

    def test_rounds(self):
        self.check(ROUNDS)

    def test_kept(self):
        self.check(KEPT)

    def test_best(self):
        self.check(BEST)

    def test_breaker(self):
        self.check(BREAKER)

    def test_track(self):
        self.check(TRACK)

    def test_lawtexts(self):
        self.check(LAWTEXTS)

    def test_linetexts(self):
        self.check(LINETEXTS)

    def test_rowtexts(self):
        self.check(ROWTEXTS)

    def test_inspectortexts(self):
        self.check(INSPECTORTEXTS)

    def test_session(self):
        self.check(SESSION)

    def test_the_examples_of_the_readme(self):
        parts = README.read_text(encoding="utf-8").split("```")[1::2]
        for part in parts:
            if ">>> " in part:
                self.check(part.lstrip())


if __name__ == "__main__":
    unittest.main()
