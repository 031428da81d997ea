"""A store of rows on a ring of records, written entry by entry and mended after a fall."""

from steplinks.checks import between, check_between
from steplinks.edits import are_writes, writes_between
from steplinks.errors import (Asleep, Fallen, Full, NoEntry, NoKind, NoMany, NoNumber, NoOrder, NoRecord, NoRow,
                              NothingDone, NoValue)
from steplinks.layings import drawn, is_entry
from steplinks.sheets import Scheme
from steplinks.waking import nearest_round

LEAST_RECORDS = 6
MOST_RECORDS = 200
MOST_LINKS = 3
MOST_VALUE = 10 ** 9
MOST_LEFT = 10 ** 6
FENCE = 1


def exchanged(order, exchange):
    """An order after two neighbouring stretches, told by where they begin, part and end, have exchanged places."""
    start, middle, end = exchange
    return order[:start] + order[middle:end] + order[start:middle] + order[end:]


def taken_back(exchanges):
    """The exchanges that take others back."""
    return [(start, start + end - middle, end) for start, middle, end in reversed(exchanges)]


class Store:
    """Rows on a ring: what is known of their order, and the notes, in which entries are written one by one.

    `order` has the head first. `left` tells how many entries can be written before the store falls, None if it does
    not. `done` has, for each edit that can be taken back, its exchanges, and the record whose value it wrote with the
    elder one, or None.
    """

    def __init__(self, records, ahead, back):
        check_between(records, LEAST_RECORDS, MOST_RECORDS)
        check_between(ahead, 0, MOST_LINKS)
        check_between(back, 0, MOST_LINKS)
        if ahead == 0 and back == 0:
            raise NoNumber()
        self.size = records
        self.links = (ahead, back)
        self.scheme = Scheme((records,), (1,) * ahead + (records - 1,) * back, 0)
        self.order = tuple(range(records))
        self.entries = [list(row) for row in drawn(self.scheme, self.order)]
        self.worths = [0] * records
        self.teller = None
        self.left = None
        self.sleeping = False
        self.done = []

    def rows(self):
        """The list of the pairs (record, value) of all rows, in order."""
        self.check_awake()
        return [(record, self.worths[record]) for record in self.order[1:self.fence()]]

    def many(self):
        """How many rows there are."""
        self.check_awake()
        return self.fence() - 1

    def where(self, record):
        """The index of the row that a record is, None if it is none."""
        self.check_awake()
        self.check_record(record)
        place = self.order.index(record)
        return place - 1 if 0 < place < self.fence() else None

    def put(self, at, value):
        """Make the first free record the row with an index, with a value; return it."""
        self.check_awake()
        self.check_row(at, self.fence() - 1)
        self.check_value(value)
        behind = self.fence() + 1
        if behind == self.size:
            raise Full()
        record = self.order[behind]
        self.perform([(at + 1, behind, behind + 1)], record, value)
        return record

    def take(self, at):
        """Make a row the last free record."""
        self.check_awake()
        self.check_row(at, self.fence() - 2)
        self.perform([(at + 1, at + 2, self.size)], None, None)

    def change(self, at, value):
        """Give a row another value."""
        self.check_awake()
        self.check_row(at, self.fence() - 2)
        self.check_value(value)
        self.perform([], self.order[at + 1], value)

    def move(self, first, many, to):
        """Put so many rows ahead of the one that has the index `to` among the others, or behind all."""
        self.check_awake()
        self.check_stretch(first, many)
        self.check_row(to, self.fence() - 1 - many)
        start = first + 1
        end = start + many
        if to < first:
            self.perform([(to + 1, start, end)], None, None)
        elif to > first:
            self.perform([(start, end, end + to - first)], None, None)
        else:
            self.perform([], None, None)

    def turn(self, first, many):
        """Let so many rows stand the other way about."""
        self.check_awake()
        self.check_stretch(first, many)
        end = first + many + 1
        self.perform([(start, end - 1, end) for start in range(first + 1, end - 1)], None, None)

    def by(self, function):
        """Let a function of the ascending writes of an exchange tell their order; None: ascending."""
        self.check_awake()
        self.teller = function

    def fall(self, many):
        """Let the store fall behind so many writes of entries more; None: never."""
        self.check_awake()
        if many is not None:
            check_between(many, 0, MOST_LEFT)
        self.left = many

    def notes(self):
        """The image as it is written."""
        return tuple([tuple(row) for row in self.entries])

    def spoil(self, record, kind, entry):
        """Write any entry, or None, whatever should stand there."""
        self.check_record(record)
        if not between(kind, 0, len(self.scheme.steps) - 1):
            raise NoKind()
        if not is_entry(entry, self.size):
            raise NoEntry()
        self.entries[record][kind] = entry

    def asleep(self):
        """Whether the store fell and was not woken."""
        return self.sleeping

    def wake(self):
        """Mend the notes to the nearest order, and go by it; tell how many entries were wrong."""
        order = nearest_round(self.entries, self.links[0])
        right = drawn(self.scheme, order)
        wrong = [entry for row, own in zip(self.entries, right) for entry, name in zip(row, own) if entry != name]
        if self.sleeping or order != self.order:
            self.done = []
        self.order = order
        self.entries = [list(row) for row in right]
        self.left = None
        self.sleeping = False
        return len(wrong)

    def back(self):
        """Take back the last edit that was done and is not taken back."""
        self.check_awake()
        if not self.done:
            raise NothingDone()
        exchanges, record, elder = self.done[-1]
        self.write_exchanges(self.told(taken_back(exchanges)))
        if record is not None:
            self.worths[record] = elder
        self.done.pop()

    def copy(self):
        """A store that is like this one, and goes on apart."""
        self.check_awake()
        other = Store(self.size, self.links[0], self.links[1])
        other.order = self.order
        other.entries = [list(row) for row in self.entries]
        other.worths = list(self.worths)
        other.teller = self.teller
        other.left = self.left
        other.done = list(self.done)
        return other

    def fence(self):
        """The place of the fence."""
        return self.order.index(FENCE)

    def check_awake(self):
        """Raise Asleep if the store fell and was not woken."""
        if self.sleeping:
            raise Asleep()

    def check_record(self, record):
        """Raise NoRecord unless a record is one of the store's."""
        if not between(record, 0, self.size - 1):
            raise NoRecord()

    def check_row(self, at, last):
        """Raise NoRow unless an index is one up to the last one."""
        if not between(at, 0, last):
            raise NoRow()

    def check_stretch(self, first, many):
        """Raise NoRow unless there is a first row, NoMany unless there are so many from it on."""
        rows = self.fence() - 1
        self.check_row(first, rows - 1)
        if not between(many, 1, rows - first):
            raise NoMany()

    def check_value(self, value):
        """Raise NoValue unless a value can be written."""
        if not between(value, 0, MOST_VALUE):
            raise NoValue()

    def told(self, exchanges):
        """For each of some exchanges the order behind it, and its writes in the order in which they are to be made."""
        found = []
        order = self.order
        before = drawn(self.scheme, order)
        for exchange in exchanges:
            order = exchanged(order, exchange)
            behind = drawn(self.scheme, order)
            found.append((order, self.in_order(writes_between(before, behind))))
            before = behind
        return found

    def in_order(self, row):
        """Ascending writes in the order that the function tells."""
        if self.teller is None:
            return row
        tell = self.teller
        answer = tell(row)
        if not are_writes(self.scheme, answer) or tuple(sorted(answer)) != row:
            raise NoOrder()
        return answer

    def write_exchanges(self, rows):
        """Write exchanges entry by entry."""
        for order, row in rows:
            for record, kind, name in row:
                self.come_to_write()
                self.entries[record][kind] = name
            self.order = order

    def come_to_write(self):
        """Count one write, or fall."""
        if self.left == 0:
            self.sleeping = True
            raise Fallen()
        if self.left is not None:
            self.left -= 1

    def perform(self, exchanges, record, value):
        """Do an edit by exchanges, and the record's value, if there is one, ahead of them."""
        rows = self.told(exchanges)
        elder = None
        if record is not None:
            elder = self.worths[record]
            self.worths[record] = value
        self.write_exchanges(rows)
        self.done.append((exchanges, record, elder))
