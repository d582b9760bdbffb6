import copy

from heldwhen.book import Book
from heldwhen.errors import NoStretch, NoTable, NoTurn, NoWidth
from tests.plot_samples import ALL, EMPTY, FAR
from tests.samples import MANY_FIGURES
from tests.table_samples import TableCase, plainly_cut
from tests.telling_samples import (
    KEY, NO_KEYS, NO_NAMES, NO_ROWS, NO_STRETCHES, ROW, SHAPES, STRETCHES, book_of, plainly_rows, plainly_turn,
    random_tellings, spots_of,
)

TELLINGS = [
    ("tell", "stock", (1, 5), 0, 10),
    ("tell", "stock", (2, 9), None, None),
    ("tell", "stock", (1, 7), 5, None),
    ("strike", "stock", (1,), 3, 6),
    ("tell", "lone", (4,), None, 3),
    ("tell", "stock", (1, 5), 4, 5),
    ("strike", "lone", (), 1, 2),
    ("tell", "price", (1, 1, 3), -4, 4),
    ("tell", "price", (1, 2, 3), -4, 4),
    ("tell", "price", (1, 1, 8), 0, None),
    ("strike", "price", (1, 3), None, None),
]


def state_of(book):
    return (book.now(), book.told(), book.tables(), book.shapes())


class Point22(TableCase):
    def test_turns_from_1_on(self):
        book = Book(SHAPES)
        self.assertEqual(book.now(), 0)
        for turn, (word, name, numbers, low, high) in enumerate(TELLINGS, 1):
            asks = book.tell if word == "tell" else book.strike
            self.assertEqual(asks(name, numbers, low, high), turn)
            self.assertEqual(book.now(), turn)
            self.assertEqual(book.told(), TELLINGS[:turn])

    def test_the_telling_of_a_turn(self):
        book = book_of(TELLINGS)
        for turn, telling in enumerate(TELLINGS, 1):
            told = book.telling(turn)
            self.assertEqual(told, telling)
            self.assertIs(type(told), tuple)

    def test_no_turn(self):
        for tellings in ([], TELLINGS[:1], TELLINGS):
            book = book_of(tellings)
            for turn in (0, -1, -len(tellings), -len(tellings) - 1, -FAR, len(tellings) + 1, len(tellings) + 2, FAR):
                if not 1 <= turn <= len(tellings):
                    self.assert_refused(NoTurn, lambda: book.telling(turn))

    def test_days_and_keys_of_all_sorts_are_taken(self):
        book = Book(SHAPES)
        turn = 0
        for name, keys, width in SHAPES:
            for low, high in STRETCHES:
                self.assertEqual(book.tell(name, (7,) * width, low, high), turn + 1)
                self.assertEqual(book.strike(name, (7,) * keys, low, high), turn + 2)
                turn += 2
        self.assertEqual(book.now(), turn)

    def assert_nothing_changed(self, book, refusal, call):
        before = copy.deepcopy(state_of(book))
        self.assert_refused(refusal, call)
        self.assertEqual(state_of(book), before)

    def test_what_is_refused_changes_nothing(self):
        for tellings in ([], TELLINGS):
            book = book_of(tellings)
            for name in NO_NAMES:
                self.assert_nothing_changed(book, NoTable, lambda: book.tell(name, ROW, 1, 2))
                self.assert_nothing_changed(book, NoTable, lambda: book.strike(name, KEY, 1, 2))
                self.assert_nothing_changed(book, NoTable, lambda: book.tell(name, (), 1, 2))
                self.assert_nothing_changed(book, NoTable, lambda: book.tell(name, ROW, 2, 1))
                self.assert_nothing_changed(book, NoTable, lambda: book.strike(name, ROW, 2, 1))
            for row in NO_ROWS:
                self.assert_nothing_changed(book, NoWidth, lambda: book.tell("stock", row, 1, 2))
                self.assert_nothing_changed(book, NoWidth, lambda: book.tell("stock", row, 2, 2))
            for key in NO_KEYS:
                self.assert_nothing_changed(book, NoWidth, lambda: book.strike("stock", key, 1, 2))
                self.assert_nothing_changed(book, NoWidth, lambda: book.strike("stock", key, 2, 1))
            for low, high in NO_STRETCHES:
                self.assert_nothing_changed(book, NoStretch, lambda: book.tell("stock", ROW, low, high))
                self.assert_nothing_changed(book, NoStretch, lambda: book.strike("stock", KEY, low, high))
            self.assertEqual(book.tell("stock", ROW, 1, 2), len(tellings) + 1)

    def test_shapes(self):
        for shapes in ([], SHAPES, SHAPES[::-1], [("x", 0, 1)]):
            self.assertEqual(Book(shapes).shapes(), shapes)
        self.assertIs(type(Book(SHAPES).shapes()), list)


class Point23(TableCase):
    def test_written_out(self):
        book = book_of(TELLINGS)
        for name, key, day, turn, decided in (
            ("stock", (1,), 0, 0, None), ("stock", (1,), 0, 1, 1), ("stock", (1,), -1, 11, None),
            ("stock", (1,), 10, 2, None), ("stock", (1,), 10, 3, 3), ("stock", (1,), 5, 2, 1),
            ("stock", (1,), 5, 3, 3), ("stock", (1,), 5, 4, 4), ("stock", (1,), 3, 4, 4), ("stock", (1,), 2, 4, 1),
            ("stock", (1,), 4, 6, 6), ("stock", (1,), 4, 5, 4), ("stock", (1,), 6, FAR, 3), ("stock", (1,), 4, FAR, 6),
            ("stock", (1,), 4, -FAR, None), ("stock", (1,), 4, -1, None), ("stock", (2,), -FAR, 2, 2),
            ("stock", (2,), FAR, 99, 2), ("stock", (3,), 4, 9, None), ("lone", (), 2, 5, 5), ("lone", (), 1, 7, 7),
            ("lone", (), 2, 7, 5), ("lone", (), 3, 7, None), ("lone", (), 1, 4, None), ("price", (1, 1), 0, 9, 8),
            ("price", (1, 1), 0, 10, 10), ("price", (1, 1), -1, 10, 8), ("price", (1, 2), 0, 11, 9),
            ("price", (1, 3), 0, 11, 11), ("price", (1, 3), 0, 10, None), ("seen", (1, 1), 0, 11, None),
        ):
            self.assertEqual(book.decided(name, key, day, turn), decided, (name, key, day, turn))

    def test_spot_by_spot(self):
        for tellings in [TELLINGS] + [random_tellings(25, seed) for seed in range(101, 106)]:
            book = book_of(tellings)
            for name, keys, width in SHAPES[:4]:
                spoken = {numbers[:keys] for word, of, numbers, low, high in tellings if of == name}
                for key in sorted(spoken | {(9,) * keys}):
                    for day, turn in spots_of(tellings)[::3]:
                        wanted = plainly_turn(SHAPES, tellings, name, key, day, turn)
                        self.assertEqual(book.decided(name, key, day, turn), wanted, (tellings, name, key, day, turn))

    def test_no_telling(self):
        book = Book(SHAPES)
        for name, keys, width in SHAPES:
            for turn in (-FAR, -1, 0, 1, FAR):
                self.assertIsNone(book.decided(name, (0,) * keys, 3, turn))

    def test_refused(self):
        for book in (Book(SHAPES), book_of(TELLINGS)):
            for name in NO_NAMES:
                for key in ((), (1,), (1, 2, 3)):
                    self.assert_refused(NoTable, lambda: book.decided(name, key, 3, 1))
            for turn in (-1, 0, 1, 99):
                for key in NO_KEYS:
                    self.assert_refused(NoWidth, lambda: book.decided("stock", key, 3, turn))
                self.assert_refused(NoWidth, lambda: book.decided("lone", (4,), 3, turn))
                self.assert_refused(NoWidth, lambda: book.decided("price", (1,), 3, turn))
                self.assert_refused(NoWidth, lambda: book.decided("price", (1, 1, 3), 3, turn))


class Point24(TableCase):
    def assert_tables(self, book, tellings, shapes):
        for name, keys, width in shapes:
            table = book.table(name)
            self.assert_table(table)
            for day, turn in spots_of(tellings):
                wanted = plainly_rows(shapes, tellings, name, day, turn)
                self.assertEqual(plainly_cut(table, day, turn), wanted, (tellings, name, day, turn))

    def test_written_out(self):
        book = book_of(TELLINGS)
        self.assertEqual(book.table("stock"), [
            ((1, 5), (EMPTY, ((1, (False, (0, 10))), (3, (False, (0, 5))), (4, (False, (0, 3))),
                              (6, (False, (0, 3, 4, 5)))))),
            ((1, 7), (EMPTY, ((3, (False, (5,))), (4, (False, (6,)))))),
            ((2, 9), (EMPTY, ((2, ALL),)))])
        self.assertEqual(book.table("lone"), [((4,), (EMPTY, ((5, (True, (3,))), (7, (True, (1, 2, 3))))))])
        self.assertEqual(book.table("price"), [
            ((1, 1, 3), (EMPTY, ((8, (False, (-4, 4))), (10, (False, (-4, 0)))))),
            ((1, 1, 8), (EMPTY, ((10, (False, (0,))),))),
            ((1, 2, 3), (EMPTY, ((9, (False, (-4, 4))),)))])
        self.assertEqual(book.table("seen"), [])

    def test_spot_by_spot(self):
        for tellings in [TELLINGS] + [random_tellings(30, seed) for seed in range(111, 117)]:
            self.assert_tables(book_of(tellings), tellings, SHAPES)

    def test_turn_by_turn(self):
        book = Book(SHAPES)
        tellings = random_tellings(20, 117)
        for place, (word, name, numbers, low, high) in enumerate(tellings, 1):
            (book.tell if word == "tell" else book.strike)(name, numbers, low, high)
            self.assert_tables(book, tellings[:place], SHAPES[:4])

    def test_tables_has_the_names_in_the_order_of_the_shapes(self):
        for shapes in (SHAPES, SHAPES[::-1], SHAPES[2:] + SHAPES[:2], []):
            for tellings in ([], TELLINGS[::-1] if shapes else []):
                book = book_of(tellings, shapes)
                tables = book.tables()
                self.assertIs(type(tables), dict)
                self.assertEqual(list(tables), [shape[0] for shape in shapes])
                for name, table in tables.items():
                    self.assertEqual(table, book.table(name))

    def test_a_book_without_tellings(self):
        book = Book(SHAPES)
        self.assertEqual(book.now(), 0)
        self.assertEqual(book.told(), [])
        for name, keys, width in SHAPES:
            self.assertEqual(book.table(name), [])
        self.assertEqual(book.tables(), {name: [] for name, keys, width in SHAPES})

    def test_no_table(self):
        for book in (Book(SHAPES), Book([]), book_of(TELLINGS)):
            for name in NO_NAMES:
                self.assert_refused(NoTable, lambda: book.table(name))

    def test_three_hundred_tellings_of_one_key(self):
        tellings = [("tell", "lone", (place,), -place, 2 * place + 1) for place in range(299, -1, -1)]
        book = book_of(tellings)
        table = book.table("lone")
        self.assert_table(table)
        self.assertEqual(len(table), 300)
        for day in (-299, -298, -1, 0, 1, 300, 598, 599):
            for turn in (0, 1, 2, 150, 299, 300, 301):
                wanted = plainly_rows(SHAPES, tellings, "lone", day, turn)
                self.assertEqual(plainly_cut(table, day, turn), wanted)


class Points2And3(TableCase):
    def test_no_telling_changes_what_is_told_at_an_earlier_turn(self):
        for seed in range(121, 125):
            tellings = random_tellings(20, seed)
            last = book_of(tellings).tables()
            for many in range(len(tellings)):
                elder = book_of(tellings[:many]).tables()
                for name, table in elder.items():
                    for day, turn in spots_of(tellings):
                        if turn <= many:
                            self.assertEqual(plainly_cut(last[name], day, turn), plainly_cut(table, day, turn))

    def test_the_shapes_that_were_handed_in(self):
        shapes = copy.deepcopy(SHAPES)
        book = book_of(TELLINGS, shapes)
        self.assertEqual(shapes, SHAPES)
        before = copy.deepcopy(state_of(book))
        shapes.append(("more", 1, 2))
        shapes[0] = ("other", 1, 1)
        self.assertEqual(state_of(book), before)
        self.assert_refused(NoTable, lambda: book.tell("more", (1, 2), 1, 2))
        self.assertEqual(book.tell("lone", (1,), 1, 2), len(TELLINGS) + 1)
        shapes.clear()
        self.assertEqual(book.shapes(), SHAPES)

    def test_what_was_told_is_the_askers_own(self):
        book = book_of(TELLINGS)
        before = copy.deepcopy(state_of(book))
        for asks in (book.told, book.shapes, lambda: book.table("stock"), lambda: book.table("seen")):
            told = asks()
            self.assertIsNot(told, asks())
            told.reverse()
            told.append(("tell", "stock", (9, 9), None, None))
            self.assertEqual(state_of(book), before)
            told.clear()
            self.assertEqual(state_of(book), before)
        tables = book.tables()
        for name in tables:
            self.assertIsNot(tables[name], book.tables()[name])
            tables[name].clear()
            tables[name].append(((1, 1), (ALL, ())))
        tables.clear()
        tables["more"] = []
        self.assertEqual(state_of(book), before)
        self.assertEqual(book.tell("stock", (1, 5), 0, 1), len(TELLINGS) + 1)
        self.assertEqual(book.tables(), book_of(TELLINGS + [("tell", "stock", (1, 5), 0, 1)]).tables())

    def test_no_list_within_one_is_one_with_another(self):
        tables = Book(SHAPES).tables()
        tables["lone"].append(((1,), (ALL, ())))
        self.assertEqual([name for name in tables if tables[name]], ["lone"])

    def test_no_later_telling_changes_what_was_told(self):
        book = book_of(TELLINGS)
        told = (book.told(), book.table("stock"), book.tables(), book.shapes())
        as_told = copy.deepcopy(told)
        book.tell("stock", (1, 8), None, None)
        book.strike("lone", (), None, None)
        self.assertEqual(told, as_told)

    def test_two_books_share_nothing(self):
        one, other = Book(SHAPES), Book(SHAPES)
        one.tell("stock", (1, 5), 0, 3)
        self.assertEqual(state_of(other), state_of(Book(SHAPES)))

    def test_numbers_of_sixty_figures(self):
        book = Book(SHAPES)
        book.tell("stock", (FAR, -FAR), -FAR, FAR)
        book.strike("stock", (FAR,), MANY_FIGURES, None)
        self.assertEqual(book.table("stock"), [
            ((FAR, -FAR), (EMPTY, ((1, (False, (-FAR, FAR))), (2, (False, (-FAR, MANY_FIGURES))))))])
        self.assertEqual(book.decided("stock", (FAR,), -FAR, FAR), 1)
        self.assertEqual(book.decided("stock", (FAR,), FAR, FAR), 2)
