import copy
import inspect
import random

from heldwhen.answers import answer_of
from heldwhen.asktexts import read_ask, write_ask
from heldwhen.entries import read_entry, write_entry, write_first, write_last
from heldwhen.errors import NoStretch, NoTable, NoTurn, NoWidth
from heldwhen.keeper import Keeper
from heldwhen.shelf import Shelf
from heldwhen.texts import write_telling
from heldwhen.views import View
from tests.ask_samples import ASKS_OF_ALL_KINDS, SMALL, field_in, fields_told, plainly_answered, random_asks
from tests.keeper_samples import History, lifted_tables, random_history, signs_to_tear, tell_to
from tests.plot_samples import ALL, EMPTY, FAR
from tests.table_samples import TableCase, plainly_cut
from tests.telling_samples import (
    KEY, NO_KEYS, NO_NAMES, NO_ROWS, NO_STRETCHES, ROW, SHAPES, plainly_rows, random_tellings, spots_of,
)

TELLINGS = [
    ("tell", "stock", (1, 5), 0, 10), ("tell", "price", (1, 1, 3), None, None), ("tell", "stock", (1, 7), 5, None),
    ("strike", "stock", (1,), 3, 6), ("tell", "lone", (4,), None, 3), ("strike", "lone", (), 1, 2),
]
NO_TELLINGS = (
    "", ".", "tell", "tell 1 stock 0 10 1 5", "tell 0 stock 0 10 1 5 .", "tell 1 stock 10 0 1 5 .",
    "told 1 stock - - 1 .", "tell 1 Stock - - 1 5 .", " tell 1 stock - - 1 5 .", "tell 1 stock - - 1 5 . ",
    "card 1 2 0 .", "done 0 .", "row stock 2 1 5 in 0 0 .", "table stock", "tell  1 stock - - 1 5 .",
    "tell 01 stock - - 1 5 .", "\n",
)
FROM_1 = (EMPTY, ((1, (False, (0, 10))),))
ENTRIES = [("lone", (4,), FROM_1), ("stock", (1, 5), FROM_1), ("stock", (2, 9), (EMPTY, ((3, ALL),)))]


def shelf_of(*drawers):
    shelf = Shelf()
    for drawer, texts in enumerate(drawers):
        for text in texts:
            shelf.put(drawer, text)
    return shelf.fallen(len(shelf.strokes()), 0)


def card_rows(number, turn, since, entries=()):
    texts = [write_entry(*entry) for entry in entries]
    return [write_first(number, turn, since)] + texts + [write_last(len(entries))]


def telling_rows(tellings, first=1):
    return [write_telling(turn, telling) for turn, telling in enumerate(tellings, first)]


def tables_of(entries, shapes=SMALL):
    tables = {name: [] for name, keys, width in shapes}
    for name, row, plot in entries:
        tables[name].append((row, plot))
    return tables


def state_of(keeper):
    return (keeper.now(), keeper.since(), keeper.tables())


class KeeperCase(TableCase):
    def assert_history(self, history):
        """The keeper has what a book of all tellings that stand has, from its since on."""
        keeper = history.keeper
        self.assertEqual((keeper.now(), keeper.since()), (len(history.tellings), history.since))
        tables = keeper.tables()
        self.assertEqual(tables, lifted_tables(history.tellings, history.since))
        self.assertEqual(list(tables), [name for name, keys, width in SMALL])

    def assert_spots(self, history):
        """The same, plainly said spot by spot."""
        for name, table in history.keeper.tables().items():
            self.assert_table(table)
            for day, turn in spots_of(history.tellings)[::3]:
                wanted = plainly_rows(SMALL, history.tellings, name, day, turn) if turn >= history.since else []
                self.assertEqual(plainly_cut(table, day, turn), wanted, (history.tellings, name, day, turn))


class Point37(KeeperCase):
    def assert_comes_up(self, shelf, turn, since, tables, shapes=SMALL):
        before = [shelf.rows(drawer) for drawer in (0, 1, 2)]
        keeper = Keeper(shelf, shapes)
        self.assertEqual((keeper.now(), keeper.since()), (turn, since))
        self.assertEqual(keeper.tables(), tables)
        self.assertEqual(list(keeper.tables()), [shape[0] for shape in shapes])
        self.assertEqual(shelf.strokes(), [])
        self.assertEqual([shelf.rows(drawer) for drawer in (0, 1, 2)], before)
        return keeper

    def test_an_empty_shelf(self):
        for shapes in ([], SMALL, SHAPES, SHAPES[::-1]):
            self.assert_comes_up(Shelf(), 0, 0, {name: [] for name, keys, width in shapes}, shapes)

    def test_tellings_without_a_card(self):
        for many in range(len(TELLINGS) + 1):
            shelf = shelf_of(telling_rows(TELLINGS[:many]))
            self.assert_comes_up(shelf, many, 0, lifted_tables(TELLINGS[:many], 0))

    def test_a_whole_card_in_one_drawer(self):
        for entries in ([], ENTRIES[:1], ENTRIES):
            for number in (0, 1, 7, FAR):
                card = card_rows(number, 5, 1, entries)
                for other in ([], ["other"], card[:-1], card_rows(FAR, 9, 9)[:1], [write_last(0)]):
                    self.assert_comes_up(shelf_of([], card, other), 5, 1, tables_of(entries))
                    self.assert_comes_up(shelf_of([], other, card), 5, 1, tables_of(entries))

    def test_of_two_whole_cards_the_greater_number_counts(self):
        for one, other in ((1, 2), (9, 10), (2, 10), (0, 1), (FAR - 1, FAR)):
            # The one with the lesser number knows more, so that only the number can be what counts.
            elder, newer = card_rows(one, 9, 4, ENTRIES), card_rows(other, 7, 3, ENTRIES[1:])
            self.assert_comes_up(shelf_of([], elder, newer), 7, 3, tables_of(ENTRIES[1:]))
            self.assert_comes_up(shelf_of([], newer, elder), 7, 3, tables_of(ENTRIES[1:]))

    def test_cards_that_are_not_whole(self):
        card = card_rows(8, 5, 1, ENTRIES)
        first, last = card[0], card[-1]
        for broken in (
            [], card[:1], card[-1:], card[1:], card[:-1], card[1:-1], [first, first], [last, last], [last, first],
            [first[:-1]] + card[1:], [first[:-2]] + card[1:], ["other"] + card[1:], [""] + card[1:],
            ["card -1 5 1 ."] + card[1:], card[:-1] + [last[:-1]], card[:-1] + [last[:-2]], card[:-1] + ["other"],
            card[:-1] + [write_last(2)], card[:-1] + [write_last(4)], card[:-1] + [write_last(0)],
            card[:1] + card[2:], card[:2] + card[1:], card + ["other"], card + [""], card + [last], ["other"] + card,
            [""] + card, [first] + card, card[::-1], card + card, card[:2] + ["other"] + card[3:],
            card[:2] + ["other"] + card[2:], card[:2] + [card[2][:-1]] + card[3:], card[:3] + [first] + card[4:],
            card[:3] + [last] + card[4:], card[:3] + [telling_rows(TELLINGS)[0]] + card[4:], [first, write_last(1)],
            [first, "row stock 2 1 5 out 2 7 3 0 .", write_last(1)], [first + "\n"] + card[1:],
        ):
            self.assert_comes_up(shelf_of([], broken, []), 0, 0, tables_of([]))
            self.assert_comes_up(shelf_of([], [], broken), 0, 0, tables_of([]))
            whole = card_rows(3, 2, 2, ENTRIES[:1])
            self.assert_comes_up(shelf_of([], broken, whole), 2, 2, tables_of(ENTRIES[:1]))
            self.assert_comes_up(shelf_of([], whole, broken), 2, 2, tables_of(ENTRIES[:1]))
            rows = telling_rows(TELLINGS[:2])
            self.assert_comes_up(shelf_of(rows, broken, broken), 2, 0, lifted_tables(TELLINGS[:2], 0))

    def test_a_card_in_drawer_0_is_none(self):
        self.assert_comes_up(shelf_of(card_rows(8, 5, 1, ENTRIES), [], []), 0, 0, tables_of([]))

    def test_tellings_in_drawers_1_and_2_are_none(self):
        rows = telling_rows(TELLINGS)
        self.assert_comes_up(shelf_of([], rows, rows), 0, 0, tables_of([]))

    def test_rows_that_are_no_tellings_are_passed_over(self):
        rows = telling_rows(TELLINGS)
        for text in NO_TELLINGS + tuple(row[:-1] for row in rows) + tuple(row[:-2] for row in rows):
            for place in range(len(rows) + 1):
                shelf = shelf_of(rows[:place] + [text] + rows[place:])
                self.assert_comes_up(shelf, len(rows), 0, lifted_tables(TELLINGS, 0))
        mixed = [row for pair in zip(rows, NO_TELLINGS) for row in pair]
        self.assert_comes_up(shelf_of(mixed), len(rows), 0, lifted_tables(TELLINGS, 0))

    def test_rows_of_another_turn_are_passed_over(self):
        rows = telling_rows(TELLINGS)
        self.assert_comes_up(shelf_of(rows[1:]), 0, 0, tables_of([]))
        self.assert_comes_up(shelf_of(rows[:2] + rows[3:]), 2, 0, lifted_tables(TELLINGS[:2], 0))
        self.assert_comes_up(shelf_of(rows[::-1]), 1, 0, lifted_tables(TELLINGS[:1], 0))
        self.assert_comes_up(shelf_of(rows[:3] + rows), len(rows), 0, lifted_tables(TELLINGS, 0))
        again = [write_telling(2, TELLINGS[4]), write_telling(1, TELLINGS[3]), write_telling(FAR, TELLINGS[3])]
        for place in range(2, len(rows) + 1):
            shelf = shelf_of(rows[:place] + again + rows[place:])
            self.assert_comes_up(shelf, len(rows), 0, lifted_tables(TELLINGS, 0))

    def test_tellings_behind_a_card(self):
        for many in range(len(TELLINGS) + 1):
            for since in range(many + 1):
                entries = [(name, row, plot) for name, table in lifted_tables(TELLINGS[:many], since).items()
                           for row, plot in table]
                card = card_rows(4, many, since, entries)
                # Rows up to the card's turn may stand there yet, and are passed over.
                for first in range(many + 1):
                    shelf = shelf_of(telling_rows(TELLINGS[first:], first + 1), card)
                    self.assert_comes_up(shelf, len(TELLINGS), since, lifted_tables(TELLINGS, since))

    def test_again_and_again(self):
        history = random_history(271)
        for place in range(3):
            keeper = Keeper(history.shelf, SMALL)
            self.assertEqual(state_of(keeper), state_of(history.keeper))


class Point38Tellings(KeeperCase):
    def test_each_by_one_stroke(self):
        for tellings in [TELLINGS] + [random_tellings(15, seed) for seed in range(272, 275)]:
            shelf = Shelf()
            keeper = Keeper(shelf, SMALL)
            for turn, telling in enumerate(tellings, 1):
                self.assertEqual(tell_to(keeper, telling), turn)
                self.assertEqual(keeper.now(), turn)
                self.assertEqual(keeper.since(), 0)
                self.assertEqual(shelf.strokes(), [(0, row) for row in telling_rows(tellings[:turn])])
                self.assertEqual(keeper.tables(), lifted_tables(tellings[:turn], 0))

    def test_written_out(self):
        shelf = Shelf()
        keeper = Keeper(shelf, SMALL)
        keeper.tell("stock", (1, 5), 0, None)
        keeper.strike("stock", (1,), None, -3)
        self.assertEqual(shelf.rows(0), ["tell 1 stock 0 - 1 5 .", "strike 2 stock - -3 1 ."])
        self.assertEqual([shelf.rows(1), shelf.rows(2)], [[], []])

    def assert_nothing_changed(self, history, refusal, call):
        before = (state_of(history.keeper), history.shelf.strokes())
        self.assert_refused(refusal, call)
        self.assertEqual((state_of(history.keeper), history.shelf.strokes()), before)

    def test_refused_before_any_stroke(self):
        for history in (History(), random_history(275), random_history(276).fallen(7, 3)):
            keeper = history.keeper
            for name in NO_NAMES:
                self.assert_nothing_changed(history, NoTable, lambda: keeper.tell(name, ROW, 1, 2))
                self.assert_nothing_changed(history, NoTable, lambda: keeper.strike(name, KEY, 1, 2))
                self.assert_nothing_changed(history, NoTable, lambda: keeper.tell(name, (), 2, 1))
            for row in NO_ROWS:
                self.assert_nothing_changed(history, NoWidth, lambda: keeper.tell("stock", row, 1, 2))
                self.assert_nothing_changed(history, NoWidth, lambda: keeper.tell("stock", row, 2, 2))
            for key in NO_KEYS:
                self.assert_nothing_changed(history, NoWidth, lambda: keeper.strike("stock", key, 1, 2))
                self.assert_nothing_changed(history, NoWidth, lambda: keeper.strike("stock", key, 2, 1))
            for low, high in NO_STRETCHES:
                self.assert_nothing_changed(history, NoStretch, lambda: keeper.tell("stock", ROW, low, high))
                self.assert_nothing_changed(history, NoStretch, lambda: keeper.strike("stock", KEY, low, high))
            history.telling(("tell", "stock", ROW, 1, 2))
            self.assert_history(history)


class Point38Cards(KeeperCase):
    def test_written_out(self):
        shelf = Shelf()
        keeper = Keeper(shelf, SMALL)
        for telling in TELLINGS[:4]:
            tell_to(keeper, telling)
        self.assertEqual(keeper.card(2), 1)
        self.assertEqual(shelf.strokes()[4:], [
            (1, None), (1, "card 1 4 2 ."),
            (1, "row stock 2 1 5 out 0 3 2 out 2 0 10 3 out 2 0 5 4 out 2 0 3 ."),
            (1, "row stock 2 1 7 out 0 2 3 out 1 5 4 out 1 6 ."),
            (1, "row price 3 1 1 3 out 0 1 2 in 0 ."),
            (1, "done 3 ."), (0, None)])
        self.assertEqual((keeper.now(), keeper.since()), (4, 2))
        tell_to(keeper, TELLINGS[4])
        self.assertEqual(keeper.card(5), 2)
        self.assertEqual(shelf.strokes()[11:], [
            (0, "tell 5 lone - 3 4 ."),
            (2, None), (2, "card 2 5 5 ."), (2, "row lone 1 4 out 0 1 5 in 1 3 ."),
            (2, "row stock 2 1 5 out 0 1 5 out 2 0 3 ."), (2, "row stock 2 1 7 out 0 1 5 out 1 6 ."),
            (2, "row price 3 1 1 3 out 0 1 5 in 0 ."), (2, "done 4 ."), (0, None)])
        self.assertEqual(keeper.card(5), 3)
        self.assertEqual(shelf.strokes()[20:22], [(1, None), (1, "card 3 5 5 .")])
        self.assertEqual(shelf.rows(0), [])

    def test_a_card_of_nothing(self):
        shelf = Shelf()
        keeper = Keeper(shelf, SMALL)
        self.assertEqual(keeper.card(0), 1)
        self.assertEqual(shelf.strokes(), [(1, None), (1, "card 1 0 0 ."), (1, "done 0 ."), (0, None)])
        self.assertEqual(keeper.card(0), 2)
        self.assertEqual(shelf.strokes()[4:], [(2, None), (2, "card 2 0 0 ."), (2, "done 0 ."), (0, None)])
        self.assertEqual((keeper.now(), keeper.since()), (0, 0))

    def test_the_strokes_in_their_order(self):
        for seed in range(281, 285):
            chance = random.Random(seed)
            history = History()
            for place in range(5):
                for telling in random_tellings(chance.randint(0, 5), seed + place):
                    history.telling(telling)
                before, drawer = len(history.shelf.strokes()), 2 if history.drawer == 1 else 1
                since = chance.randint(history.since, len(history.tellings))
                self.assertEqual(history.card(since), place + 1)
                strokes = history.shelf.strokes()[before:]
                entries = [(name, row, plot) for name, table in lifted_tables(history.tellings, since).items()
                           for row, plot in table]
                rows = card_rows(place + 1, len(history.tellings), since, entries)
                self.assertEqual(strokes, [(drawer, None)] + [(drawer, row) for row in rows] + [(0, None)])
                self.assertEqual([read_entry(row) for row in rows[1:-1]], entries)
                self.assert_history(history)
                self.assert_spots(history)

    def test_registers_in_the_order_of_the_shapes(self):
        for shapes in (SMALL, SMALL[::-1], SMALL[2:] + SMALL[:2]):
            shelf = Shelf()
            keeper = Keeper(shelf, shapes)
            for telling in TELLINGS[:5]:
                tell_to(keeper, telling)
            keeper.card(0)
            names = [read_entry(row)[0] for row in shelf.rows(1)[1:-1]]
            order = [name for name, keys, width in shapes]
            self.assertEqual(names, sorted(names, key=order.index))
            self.assertEqual(list(keeper.tables()), order)
            self.assertEqual(list(Keeper(shelf, shapes).tables()), order)
            self.assertEqual(set(names), {"stock", "price", "lone"})

    def test_no_turn(self):
        for history in (History(), random_history(285), random_history(286), random_history(287).fallen(9, 0)):
            now, since = len(history.tellings), history.since
            before = (state_of(history.keeper), history.shelf.strokes())
            for turn in (since - 1, now + 1, since - 5, now + 5, -FAR, FAR, -1):
                self.assert_refused(NoTurn, lambda: history.keeper.card(turn))
                self.assertEqual((state_of(history.keeper), history.shelf.strokes()), before)
            self.assertEqual(history.card(now), history.first[2] + len([
                mark for mark in history.marks if mark[1].startswith("done")]))
            for turn in (now - 1, now + 1):
                self.assert_refused(NoTurn, lambda: history.keeper.card(turn))

    def test_each_turn_from_since_up_to_now(self):
        for since in range(len(TELLINGS) + 1):
            for later in range(since, len(TELLINGS) + 1):
                history = History()
                for telling in TELLINGS:
                    history.telling(telling)
                self.assertEqual([history.card(since), history.card(later)], [1, 2])
                self.assert_history(history)
                self.assert_spots(history)
                history.telling(("tell", "stock", (1, 5), 4, 9))
                self.assert_history(history)
                self.assertEqual(state_of(Keeper(history.shelf, SMALL)), state_of(history.keeper))

    def test_the_next_number_and_drawer_behind_coming_up(self):
        for number, drawers, goes_to in (
            (7, ([], card_rows(7, 0, 0), []), 2), (7, ([], [], card_rows(7, 0, 0)), 1),
            (9, ([], card_rows(8, 0, 0), card_rows(9, 0, 0)), 1), (9, ([], card_rows(9, 0, 0), card_rows(8, 0, 0)), 2),
            (0, ([], ["other"], []), 1), (0, ([], [], ["other"]), 1), (0, ([], ["other"], ["other"]), 1),
            (4, ([], card_rows(5, 0, 0)[:1], card_rows(4, 0, 0)), 1),
            (4, ([], card_rows(4, 0, 0), card_rows(5, 0, 0)[:1]), 2), (0, ([], card_rows(0, 0, 0), []), 2),
        ):
            shelf = shelf_of(*drawers)
            keeper = Keeper(shelf, SMALL)
            self.assertEqual(keeper.card(0), number + 1)
            self.assertEqual(shelf.strokes(), [
                (goes_to, None), (goes_to, f"card {number + 1} 0 0 ."), (goes_to, "done 0 ."), (0, None)])
            self.assertEqual(shelf.rows(goes_to), card_rows(number + 1, 0, 0))
            self.assertEqual(shelf.rows(3 - goes_to), drawers[3 - goes_to])


class Point39(KeeperCase):
    def assert_fall(self, history, many, signs):
        fell = history.fallen(many, signs)
        self.assert_history(fell)
        self.assertEqual(fell.shelf.strokes(), [])
        return fell

    def test_behind_each_number_of_strokes(self):
        for seed in range(291, 297):
            history = random_history(seed, 18)
            cards = [mark for mark in history.marks if mark[1].startswith("done")]
            self.assertGreaterEqual(len(cards), 2)
            for many in range(len(history.shelf.strokes()) + 1):
                for signs in signs_to_tear(history, many):
                    self.assert_fall(history, many, signs)
                if many % 5 == 0:
                    self.assert_spots(history.fallen(many, 0))

    def test_tellings_cards_and_falls_again(self):
        for seed in range(301, 331):
            chance = random.Random(seed)
            history = random_history(seed, 8)
            for fall in range(6):
                many = chance.randint(0, len(history.shelf.strokes()))
                history = self.assert_fall(history, many, chance.choice(signs_to_tear(history, many)))
                number = history.number
                history.by_chance(chance, chance.randint(0, 6))
                self.assert_history(history)
                cards = [mark[2][2] for mark in history.marks if mark[1].startswith("done")]
                self.assertEqual(cards, list(range(number + 1, number + len(cards) + 1)))
            self.assert_spots(history)

    def test_behind_each_number_of_strokes_of_a_fallen_shelf(self):
        for seed in range(331, 335):
            chance = random.Random(seed)
            history = random_history(seed, 10)
            many = len(history.shelf.strokes()) * 2 // 3
            fell = history.fallen(many, 4).by_chance(chance, 8)
            for many in range(len(fell.shelf.strokes()) + 1):
                for signs in signs_to_tear(fell, many):
                    again = self.assert_fall(fell, many, signs)
                    again.by_chance(chance, 2)
                    self.assert_history(again)
                    self.assert_fall(again, len(again.shelf.strokes()), 0)

    def test_a_torn_row_stays_and_is_passed_over(self):
        history = History()
        for telling in TELLINGS[:3]:
            history.telling(telling)
        fell = history.fallen(2, 9)
        self.assertEqual(fell.shelf.rows(0)[2], telling_rows(TELLINGS)[2][:9])
        fell.telling(TELLINGS[4])
        again = fell.fallen(1, 0)
        self.assert_history(again)
        self.assertEqual(again.keeper.now(), 3)

    def test_asks_and_views_of_a_keepers_tables(self):
        for seed in range(341, 347):
            history = random_history(seed, 16)
            many = random.Random(seed).randint(len(history.shelf.strokes()) // 2, len(history.shelf.strokes()))
            fell = history.fallen(many, 3)
            tables, wanted = fell.keeper.tables(), lifted_tables(fell.tellings, fell.since)
            now = fell.keeper.now()
            for ask in ASKS_OF_ALL_KINDS + [ask for ask, width in random_asks(25, seed)]:
                asked = read_ask(write_ask(ask))
                answer = answer_of(tables, asked)
                self.assertEqual(answer, answer_of(wanted, ask))
                one, other = View(asked), View(ask)
                for turn in (now // 2, now, now + 20):
                    self.assertEqual(one.catch_up(tables, turn), other.catch_up(wanted, turn))
                    self.assertEqual(one.table(), other.table())
                self.assertEqual(one.table(), answer)

    def test_answers_of_a_keepers_tables_spot_by_spot(self):
        for seed in range(361, 364):
            history = random_history(seed, 14)
            fell = history.fallen(len(history.shelf.strokes()) - 2, 3)
            fields = fields_told(fell.tellings, SMALL)
            for field in fields.values():
                field.update({(day, turn): frozenset() for day, turn in field if turn < fell.since})
            for ask in ASKS_OF_ALL_KINDS[::2] + [ask for ask, width in random_asks(12, seed)]:
                told = answer_of(fell.keeper.tables(), read_ask(write_ask(ask)))
                self.assertEqual(field_in(told), plainly_answered(fields, ask), ask)

    def test_nothing_is_found_at_turns_before_since(self):
        history = History()
        for telling in TELLINGS:
            history.telling(telling)
        history.card(5)
        for word in ("known", "asof", "from"):
            answer = answer_of(history.keeper.tables(), ("lifted", ("table", "stock"), word, 4))
            for row, plot in answer:
                self.assertEqual(plot[0], EMPTY)
                self.assertGreaterEqual(plot[1][0][0], 5)
        known = answer_of(history.keeper.tables(), ("lifted", ("table", "stock"), "known", 0))
        self.assertEqual(plainly_cut(known, 8, 6), [(1, 7)])
        self.assertEqual(answer_of(history.keeper.tables(), ("lifted", ("table", "stock"), "asof", 4)), [])

    def test_three_hundred_tellings(self):
        history = History()
        for turn, telling in enumerate(random_tellings(300, 347), 1):
            history.telling(telling)
            if turn % 75 == 0:
                history.card(turn - 40)
        self.assert_history(history)
        strokes = len(history.shelf.strokes())
        for many in (0, 80, strokes // 2, strokes - 1, strokes):
            self.assert_fall(history, many, 2)


class Point2(KeeperCase):
    def test_the_shapes_that_were_handed_in(self):
        shapes = copy.deepcopy(SMALL)
        shelf = Shelf()
        keeper = Keeper(shelf, shapes)
        for telling in TELLINGS:
            tell_to(keeper, telling)
        self.assertEqual(shapes, SMALL)
        before = state_of(keeper)
        shapes.append(("more", 1, 2))
        shapes[1] = ("other", 1, 2)
        shapes.reverse()
        self.assertEqual(state_of(keeper), before)
        self.assert_refused(NoTable, lambda: keeper.tell("more", (1, 2), 1, 2))
        shapes.clear()
        self.assertEqual(keeper.tell("stock", (1, 5), 0, 10), len(TELLINGS) + 1)
        self.assertEqual(list(keeper.tables()), [name for name, keys, width in SMALL])

    def test_what_was_told_is_the_askers_own(self):
        keeper = random_history(351).keeper
        before = copy.deepcopy(state_of(keeper))
        tables = keeper.tables()
        for name in tables:
            self.assertIsNot(tables[name], keeper.tables()[name])
            tables[name].append(((1, 1), (ALL, ())))
            tables[name].reverse()
            tables[name].clear()
        tables.clear()
        tables["more"] = []
        self.assertEqual(state_of(keeper), before)

    def test_no_list_within_one_is_one_with_another(self):
        tables = Keeper(Shelf(), SMALL).tables()
        tables["lone"].append(((1,), (ALL, ())))
        self.assertEqual([name for name in tables if tables[name]], ["lone"])

    def test_nothing_later_changes_what_was_told(self):
        history = random_history(352)
        told = history.keeper.tables()
        as_told = copy.deepcopy(told)
        history.telling(("tell", "stock", (1, 5), None, None))
        history.card(len(history.tellings))
        self.assertEqual(told, as_told)

    def test_the_very_shelf(self):
        shelf = Shelf()
        keeper = Keeper(shelf, SMALL)
        keeper.tell("stock", (1, 5), 0, 10)
        keeper.card(1)
        self.assertEqual(len(shelf.strokes()), 6)

    def test_the_interface(self):
        self.assertEqual(list(inspect.signature(Keeper).parameters), ["shelf", "shapes"])
        for name, wanted in (("tell", ["name", "row", "low", "high"]), ("strike", ["name", "key", "low", "high"]),
                             ("card", ["turn"]), ("now", []), ("since", []), ("tables", [])):
            self.assertEqual(list(inspect.signature(getattr(Keeper, name)).parameters), ["self"] + wanted)
