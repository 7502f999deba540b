"""Tables: [0.4], [0.5], [0.15] to [0.19], [0.21], [12.1] and stage 12."""

import random

import linkbooks.decide.tables as module
from linkbooks.base.rows import read_row
from linkbooks.book.books import DEEDS, Book, renamed_book
from linkbooks.decide.tables import Table, is_final, is_stand, moves, start_of
from linkbooks.errors import InvalidBook, InvalidOperation, TooMany
from tests.books import ALONE, BOOKS, EVEN, NOTHING, SHORT, STARTS, TURNS
from tests.deciding import (
    FEW, LESS, PlainTable, all_deeds, drawn_books, is_right, keys_in_row, outcome, plain_final, plain_moves, plain_start,
    stands_of,
)
from tests.helper import BINOMIAL, GUIDED, STRANGE, TOO_GREAT, Case

WRONG_KINDS = (*STRANGE, "puts", "PUT", ("put",), ["put"], "put ", "meld -", 0, 1, DEEDS)
DRAWN = drawn_books(41, 40)
# The rows can be read on for ever from x, but no line leads from there to a state that ends.
STUCK = Book.from_lines("leaf a", "kind a a+a", "first s", "ends o", "read s a o", "read o 0 x", "read x 0 x", "read x a x", *STARTS)


def great_book(notes, turning=False):
    """A book with very many stands, the more the more notes it has; twice as many if two kinds take turns."""
    names = ["n" + "abcdefghij"[at // 10] + "abcdefghij"[at % 10] for at in range(notes)]
    kinds = ["leaf a", "kind a b+b", "kind b a+a"] if turning else ["leaf a", "kind a a+a"]
    lines = [*kinds, "first s", "ends e f", *[f"start {kind} {names[0]}" for kind in DEEDS]]
    for at, state in enumerate("sbcdef"):
        lines.append(f"read {state} 0 {'bcd'[at % 3]}")
        for name in "ab" if turning else "a":
            lines += [f"read {state} {name} {'bcdef'[(at + 1) % 5]}", f"read {state} {name}+{name} {'bcdef'[2 * at % 5]}"]
    for at, note in enumerate(names):
        lines += [f"page {note} 0 to 0 then {names[(at + 1) % notes]}", f"page {note} a+a to {kinds[-1][5]} then {names[(7 * at + 3) % notes]}"]
        if turning:
            lines.append(f"page {note} b+b to a then {names[(3 * at + 1) % notes]}")
    return Book.from_lines(*lines)


GREAT_BOOK = great_book(40)
TOO_GREAT_BOOK = great_book(26, turning=True)


def wrong_books(case, call, *args):
    """A call refuses what is no book, whatever the other arguments are."""
    for value in STRANGE:
        if not isinstance(value, Book):
            case.refused(InvalidBook, call, value, *args)
            case.refused(InvalidBook, call, value, *[None for _ in args])


def wrong_kinds(case, call, *args):
    """A call refuses what is no kind of deeds, whatever the arguments behind it are."""
    for value in WRONG_KINDS:
        case.refused(InvalidOperation, call, BINOMIAL, value, *args)
        case.refused(InvalidOperation, call, BINOMIAL, value, *[None for _ in args])


class InterfaceTest(Case):
    def test_names(self):
        self.same(module.MAX_TABLE, 20000)
        self.defined_in(module, "is_stand", "start_of", "moves", "is_final", "Table")
        for call in (is_stand, is_final):
            self.signature(call, "(book, kind, value)")
        self.signature(start_of, "(book, kind)")
        self.signature(moves, "(book, kind, stand)")
        self.signature(Table, "(book, kind)")
        self.methods_of(Table, {"way_to": ["stand"]}, ("book", "kind", "stands", "finals", "wrong", "is_good"))
        for name in ("__init__", "__contains__", "__len__", "__iter__", "__eq__", "__str__"):
            self.assertIn(name, vars(Table))

    def test_examples(self):
        table = Table(BINOMIAL, "put")
        self.same([str(table), len(table.finals), table.is_good, start_of(BINOMIAL, "take")],
                  ["table of 6 stands, 0 wrong", 2, True, (0, ("s", "a"), (), "m", "s", True)])
        self.same(moves(BINOMIAL, "put", start_of(BINOMIAL, "put"))[0], (("",), (0, ("",), (), "m", "o", True)))
        self.same([reads for reads, stand in moves(BINOMIAL, "put", start_of(BINOMIAL, "put"))], [("",), ("0",), ("a",)])


class ByForceTest(Case):
    def test_against_a_search_from_the_start(self):
        goods = set()
        for book in (*FEW, *DRAWN, STUCK):
            for kind in DEEDS:
                table, plain = Table(book, kind), PlainTable(book, kind)
                self.same([table.stands, table.wrong], [plain.stands, plain.wrong])
                self.same(table.finals, tuple(sorted(plain.finals)))
                self.same([table.is_good, len(table), list(table)], [not plain.wrong, len(plain.stands), list(plain.stands)])
                self.same(str(table), f"table of {len(plain.stands)} stands, {len(plain.wrong)} wrong")
                self.same([table.book == book, table.kind, start_of(book, kind)], [True, kind, plain_start(book, kind)])
                goods.add((kind, table.is_good))
        self.same(len(goods), 6)

    def test_moves(self):
        for book in (*FEW, *DRAWN, STUCK):
            for kind in DEEDS:
                plain = PlainTable(book, kind)
                for stand in list(plain.moves)[:60]:
                    self.same(moves(book, kind, stand), tuple(move[:2] for move in plain.moves[stand]))
                    self.same([is_stand(book, kind, stand), is_final(book, kind, stand)], [True, stand in plain.finals])

    def test_moves_from_stands_behind_no_start(self):
        chance = random.Random(5)
        for book in (*FEW, *DRAWN):
            for kind in DEEDS:
                for stand in drawn_stands(chance, book, kind, 12):
                    self.same(is_stand(book, kind, stand), True)
                    self.same(moves(book, kind, stand), tuple(move[:2] for move in plain_moves(book, kind, stand)))
                    self.same(is_final(book, kind, stand), plain_final(book, kind, stand))

    def test_ways(self):
        for book in (*FEW, *DRAWN, STUCK):
            for kind in DEEDS:
                table, plain = Table(book, kind), PlainTable(book, kind)
                ranks = plain.ranks_to()
                for stand in table:
                    way = table.way_to(stand)
                    at = plain.start
                    for reads, after in way:
                        self.assertIn((reads, after), moves(book, kind, at))
                        at = after
                    self.same([type(way), at, len(way)], [tuple, stand, ranks[stand]])

    def test_what_is_in_it(self):
        for book in (*FEW[:5], STUCK):
            for kind in DEEDS:
                table, plain = Table(book, kind), PlainTable(book, kind)
                for stand in plain.moves:
                    self.same(stand in table, stand in plain.stands)
                    if stand not in plain.stands:
                        self.refused(InvalidOperation, table.way_to, stand)


class DeedsTest(Case):
    def test_deeds_go_by_moves_through_stands_of_the_table(self):
        outcomes = set()
        for book in (*FEW, *DRAWN):
            for kind in DEEDS:
                table = Table(book, kind)
                for _, row, deed in all_deeds(book, kind, 6 if kind == "meld" else 9)[:120]:
                    new, steps = outcome(book, row, deed)
                    stands = stands_of(book, row, deed)
                    self.same([stands[0], len(stands)], [start_of(book, kind), len(steps) + 1])
                    for stand, after in zip(stands, stands[1:]):
                        self.assertIn(stand, table)
                        self.assertIn(after, [move[1] for move in moves(book, kind, stand)])
                    done = is_right(book, new)
                    self.same([stands[-1] in table.finals, stands[-1][5]], [True, done])
                    self.assertTrue(done or not table.is_good)
                    outcomes.add((kind, done))
        self.same(len(outcomes), 6)

    def test_a_good_table_shows_that_all_deeds_are_done(self):
        for book in FEW:
            for kind in DEEDS:
                fails = [row for _, row, deed in all_deeds(book, kind, 10) if not is_right(book, outcome(book, row, deed)[0])]
                self.assertTrue(not fails or not Table(book, kind).is_good)

    def test_one_fails_in_rows_with_at_most_as_many_ranks_as_there_are_stands(self):
        for book in (*FEW, *DRAWN):
            for kind in DEEDS:
                table = Table(book, kind)
                if not table.is_good:
                    self.assertLess(min(len(table.way_to(stand)) for stand in table.wrong), len(table))

    def test_a_put_is_a_meld_with_one_leaf(self):
        met = 0
        for book in (*FEW, *DRAWN):
            if book.starts["put"] == book.starts["meld"] and book.is_right(((book.kinds.leaf,),)):
                put, meld = Table(book, "put"), Table(book, "meld")
                met += meld.is_good
                self.assertTrue(put.is_good or not meld.is_good)
        self.assertGreater(met, 3)

    def test_which_row_comes_first_does_not_matter(self):
        for book in (*FEW, *DRAWN[:10]):
            table = Table(book, "meld")
            for rank, rows, carried, note, state, ends in table:
                self.assertIn((rank, rows[::-1], carried, note, state, ends), table)


class RanksTest(Case):
    def test_bases(self):
        for book in (TURNS, SHORT, EVEN):
            for kind in DEEDS:
                bases = {stand[0] for stand in Table(book, kind)}
                self.assertLessEqual(bases, set(range(len(book.ranks))))
        self.same({stand[0] for stand in Table(TURNS, "put")}, {0, 1})

    def test_kinds_that_exist_nowhere_above(self):
        table = Table(SHORT, "put")
        self.same({name for stand in table for name in stand[2] if stand[0] == 3}, set())
        for _, rows, carried, _, _, _ in [stand for stand in table if stand[0] == 3]:
            self.same([rows in (("",), ("o",)), carried], [True, ()])

    def test_dead_ends_are_left_out(self):
        stand = (0, ("x",), (), "m", "x", False)
        self.same(is_stand(STUCK, "put", stand), True)
        for kind in DEEDS:
            self.assertNotIn("x", {state for stand in Table(STUCK, kind) for state in stand[1]})
        self.same(Table(STUCK, "put").stands,
                  ((0, ("",), (), "m", "o", True), (0, ("o",), (), "m", "", False), (0, ("s",), ("a",), "m", "s", True)))

    def test_a_start_that_leads_to_no_end(self):
        for book in (NOTHING, Book.from_lines("leaf a", "kind a a+a", "first s", "ends o", "read s 0 z", "read z 0 z", *STARTS)):
            table = Table(book, "take")
            self.same([table.stands, table.finals, table.wrong, table.is_good], [((0, ("s", "a"), (), "m", "s", True),), (), (), True])
            self.same([str(table), table.way_to(start_of(book, "take"))], ["table of 1 stands, 0 wrong", ()])
        self.same(Table(NOTHING, "meld").finals, ((0, ("s", "s"), (), "m", "s", True),))
        self.same([Table(NOTHING, "put").is_good, Table(ALONE, "meld").is_good], [False, False])

    def test_a_take_of_the_last_tree(self):
        # The row has a digit there all the same, and can end behind it only.
        start = start_of(BINOMIAL, "take")
        self.same([reads for reads, _ in moves(BINOMIAL, "take", start)], [("0", "a"), ("a", "!"), ("a", "a")])
        self.same(dict(moves(BINOMIAL, "take", start))["a", "!"], (0, ("o", ""), (), "m", "z", True))
        self.same([is_final(BINOMIAL, "take", start), is_final(BINOMIAL, "take", (0, ("o", ""), (), "m", "z", True))], [False, True])
        self.same(is_final(BINOMIAL, "take", (0, ("o", "a"), (), "m", "z", True)), False)

    def test_where_nothing_is_carried_a_row_goes_on(self):
        self.same([reads for reads, _ in moves(BINOMIAL, "put", (0, ("o",), (), "m", "o", True))], [("0",), ("a",)])
        self.same([reads for reads, _ in moves(BINOMIAL, "put", (0, ("o",), ("a",), "m", "o", True))], [("",), ("0",), ("a",)])
        self.same([moves(BINOMIAL, "put", (0, ("",), (), "m", "o", True)), moves(BINOMIAL, "meld", (0, ("", ""), (), "m", "o", True))], [(), ()])
        self.same([reads for reads, _ in moves(BINOMIAL, "meld", (0, ("o", ""), (), "m", "o", True))], [("0", ""), ("a", "")])


class NamesTest(Case):
    def test_other_names(self):
        for book in (*FEW, *DRAWN[:12]):
            kinds = {name: "zyxwvu"[at] for at, name in enumerate(book.kinds.names)}
            states = {name: "tuvwxy"[(at * 5 + 2) % 6] for at, name in enumerate(book.reader.states)}
            notes = {name: "q" + "zyxwvu"[at] for at, name in enumerate(sorted({*book.machine.notes, *book.starts.values()}))}
            other = renamed_book(book, kinds=kinds, states=states, notes=notes)
            for kind in DEEDS:
                def renamed(stand):
                    rank, rows, carried, note, state, ends = stand
                    told = [states.get(rows[0], ""), kinds.get(rows[-1], "")] if kind == "take" else [states.get(row, "") for row in rows]
                    return rank, tuple(told), tuple(sorted(kinds[name] for name in carried)), notes[note], states.get(state, ""), ends
                one, two = Table(book, kind), Table(other, kind)
                self.same(two.stands, tuple(sorted(renamed(stand) for stand in one)))
                self.same([two.wrong, two.is_good], [tuple(sorted(renamed(stand) for stand in one.wrong)), one.is_good])
                self.same(two.finals, tuple(sorted(renamed(stand) for stand in one.finals)))

    def test_equal(self):
        tables = [Table(book, kind) for book in (BINOMIAL, GUIDED, LESS) for kind in DEEDS]
        for at, one in enumerate(tables):
            for beside, other in enumerate(tables):
                self.same([one == other, one != other], [at == beside, at != beside])
        self.same(Table(Book.from_lines(*BINOMIAL.lines), "put") == tables[0], True)
        for value in (*STRANGE, tables[0].stands, str(tables[0]), BINOMIAL):
            self.same([tables[0] == value, tables[0] != value, value == tables[0]], [False, True, False])

    def test_iterating_changes_nothing(self):
        table = Table(GUIDED, "meld")
        first = iter(table)
        next(first)
        self.same([list(table), list(table), tuple(table)], [list(table.stands), list(table.stands), table.stands])
        self.same([table.way_to(stand) for stand in table], [table.way_to(stand) for stand in table])


def drawn_stands(chance, book, kind, many):
    """Stands by chance, by their form alone."""
    states = (*book.reader.states, "")
    notes = sorted({*book.machine.notes, *book.starts.values()})
    found = []
    for _ in range(many):
        rank = chance.randrange(len(book.ranks))
        here = book.ranks.kinds_at(rank)
        carried = tuple(sorted(chance.choice(here) for _ in range(chance.randrange(3)))) if here else ()
        rows = [chance.choice(states) for _ in range(1 if kind == "put" else 2)]
        if kind == "take":
            rows[1] = chance.choice((*here, "")) if rows[0] else ""
        found.append((rank, tuple(rows), carried, chance.choice(notes), chance.choice(states), chance.random() < 0.5))
    return found


class FormTest(Case):
    def with_parts(self, stand, at, values):
        return [(*stand[:at], value, *stand[at + 1:]) for value in values]

    def test_each_part(self):
        stand = (0, ("o",), ("a",), "m", "z", True)
        self.same(is_stand(BINOMIAL, "put", stand), True)
        good = [("",), ("s",), ("z",)]
        for value in self.with_parts(stand, 1, good) + self.with_parts(stand, 2, [(), ("a", "a")]) + self.with_parts(stand, 4, ["", "s", "o"]):
            self.same([is_stand(BINOMIAL, kind, value) for kind in DEEDS], [True, False, False])
        wrong = [*self.with_parts(stand, 0, [1, -1, True, False, None, "0", (0,), TOO_GREAT, 10 ** 99]),
                 *self.with_parts(stand, 1, [(), ("x",), ("o", "o", "o"), ["o"], "o", None, (None,), (("o",),), ("O",), ("m",)]),
                 *self.with_parts(stand, 2, [("b",), ("a", "a", "a"), ["a"], "a", None, ("",), ((),), {"a": 1}]),
                 *self.with_parts(stand, 3, ["", "n", "o", None, ("m",), "M", True, 0]),
                 *self.with_parts(stand, 4, ["x", None, "a", ("o",), 0, False]),
                 *self.with_parts(stand, 5, [1, 0, None, "yes", (), ""]),
                 (), stand[:5], (*stand, True), list(stand), [stand], (stand,), *STRANGE]
        for value in wrong:
            for kind in DEEDS:
                self.same([is_stand(BINOMIAL, kind, value), is_final(BINOMIAL, kind, value)], [False, False])
                self.refused(InvalidOperation, moves, BINOMIAL, kind, value)
                self.refused(InvalidOperation, Table(BINOMIAL, kind).way_to, value)
                self.same(value in Table(BINOMIAL, kind), False)

    def test_true_is_not_1(self):
        table = Table(TURNS, "put")
        stand = [each for each in table if each[0] == 1][0]
        other = (True, *stand[1:])
        self.same([stand == other, is_stand(TURNS, "put", stand), is_stand(TURNS, "put", other), stand in table, other in table],
                  [True, True, False, True, False])
        self.same([(*stand[:5], int(stand[5])) in table, is_final(TURNS, "put", (False, *table.finals[0][1:]))], [False, False])
        self.refused(InvalidOperation, table.way_to, other)

    def test_rows_of_a_take(self):
        for rows, wanted in ((("o", "a"), True), (("o", ""), True), (("", ""), True), (("", "a"), False), (("o", "b"), False), (("o",), False),
                             (("o", "o"), False), (("a", "o"), False), (("x", "a"), False), (("o", None), False), ((None, "a"), False)):
            self.same(is_stand(BINOMIAL, "take", (0, rows, (), "m", "o", True)), wanted)
        # At odd ranks there is no a, and at even ones no b.
        found = [is_stand(TURNS, "take", (rank, ("o", top), (), "m", "o", True)) for rank in range(3) for top in "ab"]
        self.same(found, [True, False, False, True, False, False])

    def test_what_is_carried_exists_there(self):
        found = [is_stand(TURNS, "put", (rank, ("o",), carried, "m", "o", True)) for rank in range(2) for carried in (("a",), ("b",), ("a", "b"), ("b", "b"))]
        self.same(found, [True, False, False, False, False, True, False, True])
        self.same([is_stand(SHORT, "put", (rank, ("o",), ("c",), "m", "o", True)) for rank in range(5)], [False, False, True, False, False])

    def test_notes_of_pages_and_of_starts(self):
        book = BINOMIAL.with_line("start take t").with_line("page m a to 0 then k")
        self.same([is_stand(book, "put", (0, ("o",), (), note, "o", True)) for note in "mtkns"], [True, True, True, False, False])

    def test_all_stands_have_the_form(self):
        for book in (*FEW, *DRAWN[:10]):
            for kind in DEEDS:
                for stand in Table(book, kind):
                    self.same([is_stand(book, other, stand) for other in DEEDS if other == kind], [True])


class ErrorsTest(Case):
    def test_no_book(self):
        for call, more in ((is_stand, 1), (start_of, 0), (moves, 1), (is_final, 1), (Table, 0)):
            wrong_books(self, call, "put", *[None for _ in range(more)])

    def test_no_kind_of_deeds(self):
        stand = start_of(BINOMIAL, "put")
        for call, more in ((is_stand, (stand,)), (start_of, ()), (moves, (stand,)), (is_final, (stand,)), (Table, ())):
            wrong_kinds(self, call, *more)

    def test_too_many_stands(self):
        self.same([len(Table(GREAT_BOOK, kind)) for kind in DEEDS], [3122, 19361, 3262])
        self.refused_with(TooMany, "limit", 20000, Table, TOO_GREAT_BOOK, "meld")
        self.same([Table(TOO_GREAT_BOOK, kind).is_good for kind in ("put", "take")], [False, False])
        # Stands and moves can be told all the same.
        start = start_of(TOO_GREAT_BOOK, "meld")
        self.same([len(moves(TOO_GREAT_BOOK, "meld", start)) > 5, is_final(TOO_GREAT_BOOK, "meld", start)], [True, True])

    def test_nothing_is_changed(self):
        book = Book.from_lines(*GUIDED.lines)
        for kind in DEEDS:
            before = Table(book, kind).stands
            for stand in before:
                moves(book, kind, stand)
            self.same([Table(book, kind).stands, book.lines], [before, GUIDED.lines])

    def test_keys_of_new_rows(self):
        # Links never change the number of keys.
        for book in DRAWN[:10]:
            for keys, row, deed in all_deeds(book, "meld", 6):
                self.same(keys_in_row(book, outcome(book, row, deed)[0]), keys)
        self.same(read_row("a") in Table(BINOMIAL, "put"), False)
