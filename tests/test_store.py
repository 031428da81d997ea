"""Point 14: the store."""

import random
import unittest
from itertools import permutations

from steplinks.errors import (Asleep, Fallen, Full, LinkError, NoEntry, NoKind, NoMany, NoNumber, NoOrder, NoRecord,
                              NoRow, NothingDone, NoValue)
from steplinks.sheets import Scheme
from steplinks.store import Store
from helping import apart_by_hand, deep, far_integers, images_by_hand, oddities, written_in

LINKS = [(1, 0), (0, 1), (1, 1), (2, 0), (2, 1), (3, 3), (0, 3)]


class Model:
    """A store by plain lists: the rows, the free records, and the values."""

    def __init__(self, many, ahead, back):
        self.many = many
        self.links = (ahead, back)
        self.rows = []
        self.free = list(range(2, many))
        self.values = [0] * many

    def order(self):
        return [0] + self.rows + [1] + self.free

    def image(self, order=None):
        steps = (1,) * self.links[0] + (self.many - 1,) * self.links[1]
        return images_by_hand((self.many,), steps, 0, [tuple(order or self.order())])[0]

    def told(self):
        return [(record, self.values[record]) for record in self.rows]

    def do(self, edit):
        """Do an edit; the list of the orders ahead of each exchange and behind the last one."""
        word, *parts = edit
        before = self.order()
        if word == "put":
            record = self.free.pop(0)
            self.rows.insert(parts[0], record)
            self.values[record] = parts[1]
        elif word == "take":
            self.free.append(self.rows.pop(parts[0]))
        elif word == "change":
            self.values[self.rows[parts[0]]] = parts[1]
        elif word == "move":
            first, many, to = parts
            taken = self.rows[first:first + many]
            del self.rows[first:first + many]
            self.rows[to:to] = taken
        elif word == "turn":
            return self.turn(before, *parts)
        return [before] + ([self.order()] if self.order() != before else [])

    def turn(self, before, first, many):
        orders = [before]
        for k in range(many - 1):
            self.rows.insert(first + k, self.rows.pop(first + many - 1))
            orders.append(self.order())
        return orders

    def exchanges(self, orders):
        """The ascending writes of each exchange."""
        images = [self.image(order) for order in orders]
        return [tuple((record, kind, behind[record][kind]) for record, kind in apart_by_hand(ahead, behind))
                for ahead, behind in zip(images, images[1:])]

    def drawn_edit(self, rng):
        """An edit that can be done."""
        many = len(self.rows)
        edits = [("put", rng.randint(0, many), rng.randrange(1000))] if self.free else []
        if many > 0:
            first = rng.randrange(many)
            size = rng.randint(1, many - first)
            edits += [("take", first), ("change", first, rng.randrange(1000)),
                      ("move", first, size, rng.randint(0, many - size)), ("turn", first, size)]
        return rng.choice(edits + edits[:1])


def do(store, edit):
    return getattr(store, edit[0])(*edit[1:])


def built(rng, many, links, edits):
    """A store and its model, behind so many drawn edits."""
    store, model = Store(many, *links), Model(many, *links)
    for _ in range(edits):
        edit = model.drawn_edit(rng)
        model.do(edit)
        do(store, edit)
    return store, model


class Edits(unittest.TestCase):
    def check(self, store, model):
        self.assertEqual(store.rows(), model.told())
        self.assertEqual(store.many(), len(model.rows))
        self.assertEqual(store.notes(), model.image())
        for record in range(model.many):
            self.assertEqual(store.where(record), model.rows.index(record) if record in model.rows else None)

    def test_at_first(self):
        for many in (6, 7, 200):
            for ahead in range(4):
                for back in range(4):
                    if ahead + back > 0:
                        store = Store(many, ahead, back)
                        self.check(store, Model(many, ahead, back))
                        self.assertIs(store.asleep(), False)
                        self.assertEqual(store.wake(), 0)

    def test_examples(self):
        store = Store(8, 1, 1)
        self.assertEqual([store.put(0, 10), store.put(0, 20), store.put(2, 30), store.put(1, 40)], [2, 3, 4, 5])
        self.assertEqual(store.rows(), [(3, 20), (5, 40), (2, 10), (4, 30)])
        self.assertEqual(store.notes()[0], (3, 7))
        self.assertIsNone(store.take(1))
        self.assertEqual(store.notes()[7], (5, 6))
        self.assertIsNone(store.change(2, 10 ** 9))
        self.assertIsNone(store.move(0, 2, 1))
        self.assertEqual(store.rows(), [(4, 10 ** 9), (3, 20), (2, 10)])
        self.assertIsNone(store.turn(0, 3))
        self.assertEqual(store.rows(), [(2, 10), (3, 20), (4, 10 ** 9)])
        self.assertEqual([store.where(record) for record in range(8)], [None, None, 0, 1, 2, None, None, None])
        self.assertEqual([store.put(3, 1), store.put(3, 2), store.put(3, 3)], [6, 7, 5])

    def test_drawn_rows_of_edits(self):
        rng = random.Random(14)
        for many in (6, 7, 12, 30):
            for links in LINKS:
                store, model = Store(many, *links), Model(many, *links)
                for step in range(40):
                    edit = model.drawn_edit(rng)
                    first = model.free[0] if model.free else None
                    model.do(edit)
                    self.assertEqual(do(store, edit), first if edit[0] == "put" else None)
                    if step % 5 == 0 or many < 10:
                        self.check(store, model)
                self.check(store, model)
                self.assertEqual(store.wake(), 0)
                self.check(store, model)

    def test_most_records(self):
        rng = random.Random(141)
        store, model = Store(200, 3, 3), Model(200, 3, 3)
        for at in range(198):
            edit = ("put", rng.randint(0, at), at)
            model.do(edit)
            do(store, edit)
        for edit in [("turn", 0, 198), ("move", 3, 150, 40), ("take", 100)]:
            model.do(edit)
            do(store, edit)
        self.check(store, model)

    def test_what_is_returned_is_new(self):
        store = Store(6, 1, 0)
        store.put(0, 5)
        store.rows().append("more")
        self.assertEqual(store.rows(), [(2, 5)])
        self.assertIs(type(store.notes()), tuple)
        self.assertEqual({type(row) for row in store.notes()}, {tuple})

    def test_writes_whatever_the_notes_say(self):
        # A spoilt entry that is no part of an exchange stays; one that is comes right, though it was false ahead.
        store, model = Store(8, 2, 0), Model(8, 2, 0)
        store.spoil(0, 0, 7)
        store.spoil(0, 1, None)
        store.spoil(1, 1, 5)
        store.spoil(4, 0, None)
        model.do(("put", 0, 9))
        store.put(0, 9)
        self.assertEqual(store.rows(), [(2, 9)])
        self.assertEqual(store.notes(), written_in(model.image(), {(4, 0): None}))
        self.assertEqual(store.wake(), 1)
        self.assertEqual(store.notes(), model.image())


class Orders(unittest.TestCase):
    def test_what_the_function_is_asked(self):
        rng = random.Random(142)
        for links in LINKS:
            store, model = Store(9, *links), Model(9, *links)
            asked = []

            def tell(row):
                asked.append((row, store.notes()))
                return row[::-1]
            store.by(tell)
            done = []
            for _ in range(25):
                asked.clear()
                before = store.notes()
                edit = model.drawn_edit(rng)
                orders = model.do(edit)
                do(store, edit)
                done.append((edit[0], orders))
                self.assertEqual(asked, [(row, before) for row in model.exchanges(orders)])
            for word, orders in reversed(done):
                asked.clear()
                before = store.notes()
                store.back()
                self.assertEqual(asked, [(row, before) for row in model.exchanges(orders[::-1])])
                self.assertEqual(store.notes(), model.image(orders[0]))

    def test_none_is_ascending_again(self):
        store, model = Store(8, 1, 2), Model(8, 1, 2)
        store.by(lambda row: row[::-1])
        store.by(None)
        store.fall(2)
        row = model.exchanges(model.do(("put", 0, 1)))[0]
        with self.assertRaises(Fallen):
            store.put(0, 1)
        self.assertEqual(store.notes(), written_in(Model(8, 1, 2).image(), {write[:2]: write[2] for write in row[:2]}))

    def refused(self, store, error, call):
        """Check that a call is refused and leaves all as it was."""
        before = store.rows(), store.notes(), store.many()
        with self.assertRaises(error):
            call()
        self.assertEqual((store.rows(), store.notes(), store.many()), before)
        self.assertIs(store.asleep(), False)

    def test_functions_that_give_no_order(self):
        def flagged(row):
            return tuple((record, bool(kind), name) if kind < 2 else (record, kind, name) for record, kind, name in row)
        functions = [lambda row: list(row), lambda row: row[1:], lambda row: row + row[:1], lambda row: None,
                     lambda row: row[:1] + row[:-1], lambda row: (), lambda row: {write: 1 for write in row}, flagged,
                     lambda row: tuple(list(write) for write in row), lambda row: row[1:] + ((0, 0, 0),),
                     lambda row: tuple(write + (0,) for write in row), lambda row: str(row), lambda row: True,
                     lambda row: (row,), lambda row: deep(lambda inner: (inner,)), lambda row: store,
                     lambda row: row[1:] + (deep(lambda inner: [inner]),), lambda row: (None,) * len(row),
                     lambda row: row[1:] + ((row[0][0], row[0][1], 10 ** 999),), lambda row: (0, 1, 2)]
        for links in [(1, 1), (2, 0)]:
            store = Store(9, *links)
            for at in range(5):
                store.put(at, at)
            store.change(3, 77)
            for function in functions:
                store.by(function)
                for call in [lambda: store.put(2, 9), lambda: store.take(1), lambda: store.move(1, 2, 0),
                             lambda: store.turn(0, 5)]:
                    self.refused(store, NoOrder, call)
                # Nothing is asked where nothing is written.
                store.move(1, 2, 1)
                store.turn(2, 1)
                store.change(0, 5)
                for _ in range(4):
                    store.back()
                self.refused(store, NoOrder, store.back)
                store.by(None)
                store.change(3, 77)

    def test_what_comes_first(self):
        store = Store(6, 1, 0)
        store.by(lambda row: None)
        for call, error in [(lambda: store.put(1, 0), NoRow), (lambda: store.put(0, -1), NoValue),
                            (lambda: store.take(0), NoRow), (lambda: store.put(0, 0), NoOrder),
                            (store.back, NothingDone)]:
            self.refused(store, error, call)
        store.by(None)
        for at in range(4):
            store.put(at, at)
        store.by(lambda row: None)
        self.refused(store, Full, lambda: store.put(0, 0))

    def test_errors_of_the_function_go_on(self):
        class Own(Exception):
            pass

        store = Store(12, 1, 1)
        for at in range(6):
            store.put(at, at)
        for error in (Own, KeyError, NoOrder, Fallen, Asleep):
            asked = []

            def tell(row):
                asked.append(row)
                if len(asked) == 3:
                    raise error("told") if error in (Own, KeyError) else error()
                return row
            store.by(tell)
            store.fall(400)
            self.refused(store, error, lambda: store.turn(0, 6))
            self.assertEqual(len(asked), 3)
            asked.clear()
            store.by(None)
            store.turn(1, 5)
            store.by(tell)
            self.refused(store, error, store.back)
            store.by(None)
            store.back()

    def test_a_bad_answer_to_a_later_exchange(self):
        store = Store(12, 1, 1)
        for at in range(6):
            store.put(at, at)
        asked = []

        def tell(row):
            asked.append(row)
            return row if len(asked) < 4 else row[1:]
        store.by(tell)
        self.refused(store, NoOrder, lambda: store.turn(0, 6))
        self.assertEqual(len(asked), 4)


class Falls(unittest.TestCase):
    def fallen(self, rng, links, edit_of, order_of):
        """For each number of writes that an edit may fall behind, the store, its model, and what was to be done."""
        many = 0
        while True:
            store, model = built(random.Random(9), 9, links, 14)
            edit = edit_of(model)
            before = model.told()
            orders = model.do(edit)
            rows = [order_of(row) for row in model.exchanges(orders)]
            if many >= sum(len(row) for row in rows):
                return
            store.by(order_of)
            store.fall(many)
            yield store, model, edit, orders, [write for row in rows for write in row], many, before
            many += 1

    def check_falls(self, links, edit_of, order_of):
        rng = random.Random(143)
        for store, model, edit, orders, writes, many, before in self.fallen(rng, links, edit_of, order_of):
            image = written_in(model.image(orders[0]), {})
            for record, kind, name in writes[:many]:
                image = written_in(image, {(record, kind): name})
            with self.assertRaises(Fallen):
                do(store, edit)
            self.assertIs(store.asleep(), True)
            self.assertEqual(store.notes(), image)
            wrong = {tuple(order): len(apart_by_hand(model.image(order), image)) for order in orders}
            gainsaid = store.wake()
            self.assertEqual(gainsaid, min(wrong.values()))
            self.assertIs(store.asleep(), False)
            near = [order for order in orders if wrong[tuple(order)] == gainsaid]
            # By the fact: as it was, or as it is behind some of the exchanges; of several the least.
            order = min(near)
            self.assertEqual(store.notes(), model.image(order))
            rows = order[1:order.index(1)]
            self.assertEqual([record for record, _ in store.rows()], rows)
            values = dict(before)
            for record, value in store.rows():
                # A put's value is written ahead.
                self.assertEqual(value, values.get(record, model.values[record]))
            with self.assertRaises(NothingDone):
                store.back()
            # There is no fall ahead any more.
            store.turn(0, len(rows))

    def test_each_edit_at_each_write(self):
        for links in [(1, 1), (2, 0), (0, 3), (3, 3)]:
            for edit_of in [lambda model: ("put", 1, 555) if model.free else ("take", 0), lambda model: ("take", 1),
                            lambda model: ("move", 0, 2, len(model.rows) - 2),
                            lambda model: ("turn", 0, len(model.rows))]:
                for order_of in [lambda row: row, lambda row: row[::-1], lambda row: row[1::2] + row[::2]]:
                    self.check_falls(links, edit_of, order_of)

    def test_the_edge_of_a_fall(self):
        model = Model(8, 1, 1)
        writes = model.exchanges(model.do(("put", 0, 5)))[0]
        store = Store(8, 1, 1)
        store.fall(len(writes))
        self.assertEqual(store.put(0, 5), 2)
        self.assertIs(store.asleep(), False)
        # What writes no entry does not fall.
        store.change(0, 6)
        store.move(0, 1, 0)
        store.turn(0, 1)
        self.assertEqual(store.rows(), [(2, 6)])
        with self.assertRaises(Fallen):
            store.take(0)
        self.assertEqual(store.notes(), model.image())
        self.assertEqual(store.wake(), 0)
        self.assertEqual(store.rows(), [(2, 6)])
        store.fall(3)
        store.fall(None)
        store.take(0)
        store.fall(0)
        store.fall(5)
        with self.assertRaises(Fallen):
            store.put(0, 7)
        store.wake()
        store.fall(0)
        store.wake()
        store.put(0, 7)

    def test_a_fall_counts_over_edits(self):
        store, model = Store(10, 1, 0), Model(10, 1, 0)
        store.fall(10)
        for at in range(3):
            model.do(("put", at, at))
            store.put(at, at)
        with self.assertRaises(Fallen):
            store.put(3, 3)
        self.assertEqual(len(apart_by_hand(store.notes(), model.image())), 1)

    def test_values_at_a_fall(self):
        store = Store(8, 1, 1)
        for at in range(3):
            store.put(at, 10 + at)
        store.change(1, 99)
        store.put(3, 13)
        # The value is written ahead, an elder one behind, of the exchanges.
        store.fall(0)
        with self.assertRaises(Fallen):
            store.put(0, 44)
        store.wake()
        self.assertEqual(store.rows(), [(2, 10), (3, 99), (4, 12), (5, 13)])
        store = Store(8, 1, 1)
        store.put(0, 10)
        store.take(0)
        store.fall(0)
        with self.assertRaises(Fallen):
            store.back()
        store.wake()
        self.assertEqual(store.rows(), [])


class Wakes(unittest.TestCase):
    def nearest(self, links, layings, images, image):
        counts = [len(apart_by_hand(right, image)) for right in images]
        least = min(counts)
        return least, min(laying for laying, count in zip(layings, counts) if count == least)

    def test_all_orders(self):
        # Awake and asleep, spoilt at will: the nearest of all orders, the least of several.
        rng = random.Random(144)
        for many in (6, 7):
            layings = [(0,) + rest for rest in permutations(range(1, many))]
            for links in LINKS:
                images = images_by_hand((many,), (1,) * links[0] + (many - 1,) * links[1], 0, layings)
                for _ in range(8 if many == 6 else 3):
                    store, model = built(rng, many, links, rng.randint(0, 8))
                    image = model.image()
                    if rng.random() < 0.5:
                        store.fall(rng.randint(0, 3))
                        try:
                            do(store, model.drawn_edit(rng))
                        except Fallen:
                            pass
                        image = store.notes()
                    for _ in range(rng.randint(0, 8)):
                        record, kind = rng.randrange(many), rng.randrange(sum(links))
                        name = rng.choice([None, *range(many)])
                        store.spoil(record, kind, name)
                        image = written_in(image, {(record, kind): name})
                    self.assertEqual(store.notes(), image)
                    gainsaid, order = self.nearest(links, layings, images, image)
                    unreadable = sum(row.count(None) for row in image)
                    self.assertEqual(store.wake(), gainsaid + unreadable)
                    self.assertEqual(store.notes(), images[layings.index(order)])
                    self.assertEqual([record for record, _ in store.rows()], list(order[1:order.index(1)]))
                    self.assertEqual(store.wake(), 0)

    def test_spoilt_beside_a_fall(self):
        # The fact: less than a quarter of the links spoilt, and the rows are as ahead, or behind some exchanges.
        rng = random.Random(145)
        for links in [(3, 2), (3, 3)]:
            for _ in range(25):
                store, model = built(rng, rng.choice([9, 20]), links, 20)
                edit = model.drawn_edit(rng)
                orders = model.do(edit)
                store.by(lambda row: tuple(rng.sample(row, len(row))))
                store.fall(rng.randint(0, 40))
                try:
                    do(store, edit)
                except Fallen:
                    pass
                store.spoil(rng.randrange(model.many), rng.randrange(sum(links)), rng.randrange(model.many))
                store.wake()
                rows = [order[1:order.index(1)] for order in orders]
                self.assertIn([record for record, _ in store.rows()], rows)

    def test_awake_the_order_is_known(self):
        store = Store(6, 1, 0)
        for at in range(3):
            store.put(at, at)
        for record in range(6):
            store.spoil(record, 0, None)
        self.assertEqual(store.rows(), [(2, 0), (3, 1), (4, 2)])
        store.take(0)
        self.assertEqual(store.rows(), [(3, 1), (4, 2)])
        # Three entries can be read; the least of the orders that say the same.
        self.assertEqual(store.notes(), ((3,), (None,), (0,), (None,), (None,), (2,)))
        self.assertEqual(store.wake(), 3)
        self.assertEqual(store.notes(), ((3,), (4,), (0,), (1,), (5,), (2,)))
        self.assertEqual(store.rows(), [(3, 1)])
        with self.assertRaises(NothingDone):
            store.back()

    def test_rounds_closed_too_early(self):
        # With one link each, two false names close two rounds; each can be opened anywhere.
        store = Store(200, 1, 0)
        store.spoil(99, 0, 0)
        store.spoil(199, 0, 100)
        self.assertEqual(store.wake(), 2)
        self.assertEqual(store.notes(), Store(200, 1, 0).notes())
        store.spoil(120, 0, 0)
        store.spoil(199, 0, 121)
        store.spoil(50, 0, None)
        self.assertEqual(store.wake(), 2)
        self.assertEqual(store.rows(), [])
        order = list(range(51)) + list(range(121, 200)) + list(range(51, 121))
        self.assertEqual(store.notes(), Model(200, 1, 0).image(order))

    def test_rounds_are_opened_where_least_is_lost(self):
        # With two links each, rounds 0 to 3 and 4 to 9; one of the two links from 6 to 7 can't be read.
        store = Store(10, 2, 0)
        for record, name in [(3, 0), (9, 4)]:
            store.spoil(record, 0, name)
            store.spoil(record, 1, name)
        store.spoil(6, 0, None)
        self.assertEqual(store.wake(), 4)
        self.assertEqual(store.notes(), Model(10, 2, 0).image([0, 1, 2, 3, 7, 8, 9, 4, 5, 6]))
        # And the round of the head, where it can be opened only behind record 1.
        store = Store(10, 2, 0)
        for record, name in [(3, 0), (9, 4)]:
            store.spoil(record, 0, name)
            store.spoil(record, 1, name)
        store.spoil(1, 1, None)
        self.assertEqual(store.wake(), 4)
        self.assertEqual(store.notes(), Model(10, 2, 0).image([0, 1, 4, 5, 6, 7, 8, 9, 2, 3]))

    def test_rounds_are_opened_so_that_the_least_is_first(self):
        # Rounds 0 8 1 3, 2 6 5 and 4 9 7; the first goes on up to where a lesser record can stand.
        store = Store(10, 1, 0)
        for record, name in [(0, 8), (8, 1), (1, 3), (3, 0), (2, 6), (6, 5), (5, 2), (4, 9), (9, 7), (7, 4)]:
            store.spoil(record, 0, name)
        self.assertEqual(store.wake(), 3)
        self.assertEqual(store.notes(), Model(10, 1, 0).image([0, 2, 6, 5, 4, 9, 7, 8, 1, 3]))
        # Records that came to be rows this way have the values that they had at first.
        self.assertEqual(store.rows(), [(record, 0) for record in (2, 6, 5, 4, 9, 7, 8)])

    def test_many_ties(self):
        # Eight records name what others name, too: the least of very many orders.
        store = Store(200, 1, 0)
        for at in range(8):
            store.spoil(20 * at + 5, 0, 20 * at + 15)
        self.assertEqual(store.wake(), 8)
        self.assertEqual(store.notes()[5], (6,))
        for at in range(8):
            store.spoil(20 * at + 5, 0, None)
        self.assertEqual(store.wake(), 8)
        self.assertEqual(store.notes(), Store(200, 1, 0).notes())


class Backs(unittest.TestCase):
    def test_long_rows_of_edits(self):
        rng = random.Random(146)
        for many, links in [(6, (1, 0)), (9, (0, 2)), (30, (1, 1)), (60, (3, 3))]:
            store, model = Store(many, *links), Model(many, *links)
            states = [(store.rows(), store.notes())]
            for _ in range(80):
                edit = model.drawn_edit(rng)
                model.do(edit)
                do(store, edit)
                states.append((store.rows(), store.notes()))
                if rng.random() < 0.2:
                    for _ in range(rng.randint(1, min(5, len(states) - 1))):
                        states.pop()
                        self.assertIsNone(store.back())
                        self.assertEqual((store.rows(), store.notes()), states[-1])
                    model = self.like(store, many, links)
                if rng.random() < 0.2:
                    store.spoil(rng.randrange(many), 0, None)
                    self.assertIn(store.wake(), (0, 1))
                    self.assertEqual((store.rows(), store.notes()), states[-1])
            for state in reversed(states[:-1]):
                store.back()
                self.assertEqual((store.rows(), store.notes()), state)
            with self.assertRaises(NothingDone):
                store.back()
            self.assertEqual(store.notes(), Store(many, *links).notes())

    def like(self, store, many, links):
        """A model that is like a store."""
        model = Model(many, *links)
        order = [0]
        while len(order) < many:
            if links[0] > 0:
                order.append(store.notes()[order[-1]][0])
            else:
                order.append([row[0] for row in store.notes()].index(order[-1]))
        model.rows, model.free = order[1:order.index(1)], order[order.index(1) + 1:]
        return model

    def test_values_come_back(self):
        store = Store(6, 1, 0)
        store.put(0, 7)
        store.change(0, 8)
        store.change(0, 9)
        store.take(0)
        for at in range(4):
            store.put(at, at + 1)
        # The last free record, once taken with its value 9, is put again with 4.
        self.assertEqual(store.rows(), [(3, 1), (4, 2), (5, 3), (2, 4)])
        for _ in range(4):
            store.back()
        store.back()
        self.assertEqual(store.rows(), [(2, 9)])
        store.back()
        self.assertEqual(store.rows(), [(2, 8)])
        store.back()
        self.assertEqual(store.rows(), [(2, 7)])
        store.back()
        self.assertEqual(store.rows(), [])
        with self.assertRaises(NothingDone):
            store.back()
        self.assertEqual(store.put(0, 1), 2)

    def test_wakes(self):
        store = Store(8, 1, 1)
        store.put(0, 1)
        store.put(1, 2)
        store.spoil(2, 0, None)
        # Nothing is moved by this, so that there is still something to take back.
        self.assertEqual(store.wake(), 1)
        store.back()
        self.assertEqual(store.rows(), [(2, 1)])
        store.fall(0)
        with self.assertRaises(Fallen):
            store.back()
        self.assertEqual(store.wake(), 0)
        self.assertEqual(store.rows(), [(2, 1)])
        with self.assertRaises(NothingDone):
            store.back()
        # Awake, but moved: record 2 is told behind 5 by all that tells of it.
        store.put(1, 3)
        for record, kind, name in [(0, 0, 3), (2, 0, 6), (2, 1, 5), (3, 1, 0), (5, 0, 2), (6, 1, 2)]:
            store.spoil(record, kind, name)
        self.assertEqual(store.wake(), 0)
        self.assertEqual(store.rows(), [(3, 3)])
        with self.assertRaises(NothingDone):
            store.back()

    def test_back_falls(self):
        rng = random.Random(147)
        for links in [(1, 1), (3, 3)]:
            for many in range(0, 60):
                store, model = built(rng, 9, links, 12)
                size = len(model.rows)
                if size < 3:
                    continue
                before = model.order()
                orders = model.do(("turn", 0, size))
                store.turn(0, size)
                store.fall(many)
                writes = [write for row in model.exchanges(orders[::-1]) for write in row]
                image = model.image()
                for record, kind, name in writes[:many]:
                    image = written_in(image, {(record, kind): name})
                if many >= len(writes):
                    store.back()
                    self.assertEqual(store.notes(), model.image(before))
                    continue
                with self.assertRaises(Fallen):
                    store.back()
                self.assertEqual(store.notes(), image)
                store.wake()
                self.assertIn([record for record, _ in store.rows()], [order[1:order.index(1)] for order in orders])

    def test_a_put_is_taken_back_but_falls(self):
        # The elder value is written behind the exchanges, so that it is not written.
        store = Store(6, 3, 3)
        store.put(0, 5)
        store.fall(1)
        with self.assertRaises(Fallen):
            store.back()
        store.wake()
        self.assertEqual(store.rows(), [(2, 5)])


class Copies(unittest.TestCase):
    def test_they_go_on_apart(self):
        rng = random.Random(148)
        for links in LINKS:
            store, model = built(rng, 9, links, 12)
            store.spoil(3, 0, None)
            other = store.copy()
            self.assertIsInstance(other, Store)
            self.assertEqual((other.rows(), other.notes()), (store.rows(), store.notes()))
            before = other.rows(), other.notes()
            for _ in range(6):
                edit = model.drawn_edit(rng)
                model.do(edit)
                do(store, edit)
            store.spoil(4, 0, 4)
            self.assertEqual((other.rows(), other.notes()), before)
            after = store.rows(), store.notes()
            for _ in range(12):
                other.back()
            with self.assertRaises(NothingDone):
                other.back()
            other.spoil(5, 0, None)
            self.assertEqual((store.rows(), store.notes()), after)
            for _ in range(18):
                store.back()
            with self.assertRaises(NothingDone):
                store.back()

    def test_the_fall_ahead_and_the_function(self):
        asked = []

        def tell(row):
            asked.append(row)
            return row[::-1]
        store = Store(8, 1, 1)
        store.put(0, 1)
        store.by(tell)
        store.fall(7)
        other = store.copy()
        store.put(1, 2)
        with self.assertRaises(Fallen):
            store.put(2, 3)
        self.assertIs(other.asleep(), False)
        self.assertEqual(len(asked), 2)
        other.put(1, 2)
        self.assertEqual(len(asked), 3)
        other.by(None)
        with self.assertRaises(Fallen):
            other.put(2, 3)
        self.assertEqual(len(asked), 3)
        self.assertNotEqual(other.notes(), store.notes())
        other.wake()
        self.assertIs(store.asleep(), True)
        store.wake()
        store.put(0, 4)
        self.assertEqual(len(asked), 4)


class Refused(unittest.TestCase):
    def refused(self, store, error, call):
        before = store.notes(), store.asleep()
        with self.assertRaises(error) as caught:
            call()
        self.assertIs(type(caught.exception), error)
        self.assertEqual((store.notes(), store.asleep()), before)

    def test_numbers_of_a_store(self):
        for wrong in oddities() + far_integers() + [(), 5, 201, (6,), "6"]:
            before = repr(wrong)
            for others in [(1, 1), (wrong, wrong), (0, 0)]:
                with self.assertRaises(NoNumber):
                    Store(wrong, *others)
            self.assertEqual(repr(wrong), before)
        for wrong in oddities() + far_integers() + [(), 4, -1, (1,)]:
            for parts in [(6, wrong, 1), (6, 1, wrong), (6, wrong, wrong), (200, 0, wrong)]:
                with self.assertRaises(NoNumber):
                    Store(*parts)
        with self.assertRaises(NoNumber):
            Store(6, 0, 0)

    def test_each_argument(self):
        store = Store(8, 2, 1)
        for at in range(4):
            store.put(at, at)
        wrongs = oddities() + [far for far in far_integers() if far != 401] + [(), (1,), "1"]
        for wrong in wrongs:
            before = repr(wrong)
            for record in (wrong, 8, -1):
                self.refused(store, NoRecord, lambda: store.where(record))
                self.refused(store, NoRecord, lambda: store.spoil(record, wrong, wrong))
            for kind in (wrong, 3, -1):
                self.refused(store, NoKind, lambda: store.spoil(7, kind, wrong))
            for entry in (wrong, 8, -1):
                if entry is not None:
                    self.refused(store, NoEntry, lambda: store.spoil(7, 2, entry))
            for at in (wrong, 5, -1):
                self.refused(store, NoRow, lambda: store.put(at, wrong))
            for at in (wrong, 4, -1):
                self.refused(store, NoRow, lambda: store.take(at))
                self.refused(store, NoRow, lambda: store.change(at, wrong))
                self.refused(store, NoRow, lambda: store.move(at, wrong, wrong))
                self.refused(store, NoRow, lambda: store.turn(at, wrong))
            for value in (wrong, -1, 10 ** 9 + 1):
                self.refused(store, NoValue, lambda: store.put(4, value))
                self.refused(store, NoValue, lambda: store.change(3, value))
            for many in (wrong, 0, -1, 4):
                self.refused(store, NoMany, lambda: store.move(1, many, wrong))
                self.refused(store, NoMany, lambda: store.turn(1, many))
            for to in (wrong, 3, -1):
                self.refused(store, NoRow, lambda: store.move(1, 2, to))
            for many in (wrong, -1, 10 ** 6 + 1):
                if many is not None:
                    self.refused(store, NoNumber, lambda: store.fall(many))
            self.assertEqual(repr(wrong), before)
        self.assertEqual(store.rows(), [(2, 0), (3, 1), (4, 2), (5, 3)])
        store.fall(10 ** 6)
        store.move(1, 2, 2)
        store.put(4, 10 ** 9)
        store.turn(1, 4)

    def test_full_and_empty(self):
        store = Store(6, 1, 0)
        for call in [lambda: store.take(0), lambda: store.change(0, 0), lambda: store.move(0, 1, 0),
                     lambda: store.turn(0, 1), lambda: store.put(1, 0)]:
            self.refused(store, NoRow, call)
        for at in range(4):
            store.put(at, at)
        self.refused(store, Full, lambda: store.put(4, 0))
        self.refused(store, NoRow, lambda: store.put(5, -1))
        self.refused(store, NoValue, lambda: store.put(4, -1))
        store.take(3)
        self.assertEqual(store.put(0, 5), 5)

    def test_asleep(self):
        store = Store(8, 1, 1)
        store.put(0, 1)
        store.fall(1)
        with self.assertRaises(Fallen):
            store.put(0, 2)
        for wrong in (0, None, -1, True, deep(lambda inner: [inner])):
            for call in [store.rows, store.many, lambda: store.where(wrong), lambda: store.put(wrong, wrong),
                         lambda: store.take(wrong), lambda: store.change(wrong, wrong),
                         lambda: store.move(wrong, wrong, wrong), lambda: store.turn(wrong, wrong),
                         lambda: store.by(wrong), lambda: store.fall(wrong), store.back, store.copy]:
                self.refused(store, Asleep, call)
        self.refused(store, NoRecord, lambda: store.spoil(8, 0, 0))
        store.spoil(7, 1, None)
        self.assertIsNone(store.notes()[7][1])
        self.assertIs(store.asleep(), True)
        self.assertEqual(store.wake(), 2)
        self.assertEqual(store.rows(), [(2, 1)])

    def test_a_store_is_no_scheme(self):
        self.assertNotEqual(Store(6, 1, 0), Scheme((6,), (1,), 0))
        self.assertTrue(issubclass(Asleep, LinkError))


if __name__ == "__main__":
    unittest.main()
