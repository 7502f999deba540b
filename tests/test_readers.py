"""Readers: [0.2], [0.4], [0.9], [0.10], [5.1] and stage 5."""

import itertools
import random

import linkbooks.read.readers as module
from linkbooks.errors import InvalidOperation, InvalidReader, InvalidRow, ParseError
from linkbooks.read.readers import Reader, includes, parting_row
from tests.helper import BINOMIAL, DEEP, GUIDED, STRANGE, Case
from tests.test_rows import LONG, LOOSE_DIGITS, NO_LOOSE_DIGITS, row_of

A = ("a",)
AA = ("a", "a")
B = ("b",)
LINES = ("first s", "ends o", "read s 0 z", "read s a o", "read z 0 z", "read z a o", "read o 0 z", "read o a o")
SHORT = [row for many in range(5) for row in itertools.product(((), A, AA, B), repeat=many)]


def binary():
    return Reader.from_lines(*LINES)


def ones():
    return Reader("s", ("o",), {("s", A): "o", ("o", A): "o"})


def closed():
    """It takes no row but the empty one."""
    return Reader("s", ("o",), {})


def walk(reader, digits):
    """Where the digits lead, line by line."""
    at = [reader.first]
    for digit in digits:
        at = [after for place, after in reader.reads.items() for state in at if place == (state, digit)]
    return at[0] if at else ""


def taken(reader, digits):
    """Whether the digits lead along lines to a state that ends, or are the empty row."""
    return digits == () or walk(reader, digits) in reader.ends


def words(reader, ranks, *more):
    """All rows of just so many ranks, of the digits of readers."""
    digits = sorted({digit for each in (reader, *more) for digit in each.digits})
    return [row for row in itertools.product(digits, repeat=ranks) if row == () or row[-1] != ()]


def rows_taken(reader, ranks):
    """All rows of at most so many ranks that a reader takes, by going on from row to row."""
    rows, found = [((), reader.first)], {()}
    for _ in range(ranks):
        rows = [(row + (digit,), after) for row, at in rows for (state, digit), after in reader.reads.items() if state == at]
        found |= {row for row, at in rows if at in reader.ends}
    return found


def drawn(chance, digits, many):
    """A reader by chance with up to six states; None if there is none."""
    names = "sabcde"[:chance.randrange(2, 7)]
    ends = tuple(name for name in names[1:] if chance.randrange(3) == 0)
    reads = {}
    for _ in range(many):
        state, digit, after = chance.choice(names), chance.choice(digits), chance.choice(names[1:])
        if digit or after not in ends:
            reads[state, digit] = after
    return Reader("s", ends, reads) if ends else None


def readers(many, seed=7, digits=((), A)):
    """Many different readers by chance."""
    chance = random.Random(seed)
    found = [drawn(chance, digits, chance.randrange(1, 14)) for _ in range(many)]
    return [reader for reader in found if reader is not None]


class InterfaceTest(Case):
    def test_constants(self):
        self.same([module.MAX_STATES, module.MAX_READS], [6, 40])

    def test_class_defines_all(self):
        self.defined_in(module, "Reader", "includes", "parting_row")
        methods = {"from_lines": ["*lines"], "behind": ["digits"], "takes": ["digits"], "least": []}
        self.methods_of(Reader, methods, ("first", "ends", "reads", "states", "digits", "lines", "spare"))
        self.assertIsInstance(vars(Reader)["from_lines"], classmethod)
        for name in ("__init__", "__len__", "__eq__", "__str__"):
            self.assertIn(name, vars(Reader))
        self.signature(Reader, "(first, ends, reads)")
        self.signature(includes, "(one, other)")
        self.signature(parting_row, "(one, other)")

    def test_examples(self):
        reader = binary()
        found = [str(reader), reader.digits, reader.behind((A, ())), reader.takes((A, ())), reader.spare,
                 len(reader.least())]
        self.same(found, ["reader with 3 states, 6 reads", ((), A), "z", False, (), 3])
        found = [includes(reader, ones()), includes(ones(), reader), parting_row(reader, ones())]
        self.same(found, [True, False, ((), A)])


class CreationTest(Case):
    def refuses(self, first, ends, reads):
        self.refused(InvalidReader, Reader, first, ends, reads)

    def test_no_reads(self):
        reader = closed()
        self.same([reader.first, reader.ends, reader.reads, reader.states, reader.digits, reader.lines, len(reader)],
                  ["s", ("o",), {}, ("o", "s"), (), ("first s", "ends o"), 2])

    def test_first_state_is_a_name(self):
        for first in STRANGE:
            self.refuses(first, ("o",), {})
            self.refuses(first, ("o",), {("s", A): "o"})

    def test_ends_are_ascending(self):
        for ends in (("o", "o"), ("z", "o"), ("o", "z", "o"), ("s",), ("o", "s"), (), ["o"], "o", ("O",), (0,), ("o", None),
                     (("o",),), {"o": "o"}, None, ("o", ["z"])):
            self.refuses("s", ends, {})
        for ends in STRANGE:
            if not (isinstance(ends, tuple) and ends == ("a",)):
                self.refuses("s", ends, {})
        self.same(Reader("s", ("o", "z"), {}).ends, ("o", "z"))

    def test_first_state_does_not_end(self):
        self.refuses("s", ("s",), {("s", A): "o"})
        self.refuses("s", ("o", "s"), {("s", A): "o"})

    def test_reads_are_a_dict(self):
        for reads in STRANGE:
            if reads != {}:
                self.refuses("s", ("o",), reads)
        for reads in ([(("s", A), "o")], ((("s", A), "o"),), "s", None):
            self.refuses("s", ("o",), reads)

    def test_places_are_pairs(self):
        places = ("s", ("s",), A, ("s", A, "o"), (A, "s"), ("s", "a"), ("s", ("b", "a")), ("s", ("a",) * 4), ("s", LONG),
                  ("S", A), ("", A), (0, A), (None, A), ("s", (0,)), ("s", None), ("s", ("A",)), 0, None, True, ())
        for place in places:
            self.refuses("s", ("o",), {place: "o"})
            self.refuses("s", ("o",), {("s", A): "o", place: "o"})

    def test_next_states_are_names(self):
        for after in STRANGE:
            self.refuses("s", ("o",), {("s", A): after})
            self.refuses("s", ("o",), {("s", A): "o", ("o", A): after})

    def test_no_line_leads_to_the_first_state(self):
        self.refuses("s", ("o",), {("s", A): "s"})
        self.refuses("s", ("o",), {("s", A): "o", ("o", A): "s"})
        self.refuses("s", ("o",), {("s", A): "o", ("o", ()): "s"})
        self.refuses("s", ("o",), {("z", A): "s"})

    def test_no_empty_digit_leads_to_an_end(self):
        self.refuses("s", ("o",), {("s", ()): "o"})
        self.refuses("s", ("o", "z"), {("s", A): "o", ("o", ()): "z"})
        self.refuses("s", ("o",), {("z", ()): "o"})
        self.same(Reader("s", ("o",), {("s", ()): "z"}).states, ("o", "s", "z"))

    def test_six_and_seven_states(self):
        self.same(Reader("s", ("a", "b", "c", "d", "e"), {}).states, ("a", "b", "c", "d", "e", "s"))
        self.refuses("s", ("a", "b", "c", "d", "e", "f"), {})
        six = {(state, A): state for state in "abcde"}
        self.same(len(Reader("s", ("a",), six)), 6)
        self.refuses("s", ("a",), six | {("f", A): "a"})
        self.refuses("s", ("a",), six | {("e", AA): "f"})
        self.refuses("f", ("a",), six | {("s", AA): "a"})
        self.same(len(Reader("f", ("a",), six)), 6)

    def test_forty_and_forty_one_reads(self):
        names = ["a", "b", "c", "d", "e", "f", "g"]
        digits = [*[(name,) for name in names], *itertools.combinations_with_replacement(names, 2)]
        for many in (39, 40, 41, 42):
            reads = {(state, digit): "o" for digit, state in list(itertools.product(digits, ["s", "o"]))[:many]}
            self.same(len(reads), many)
            if many <= 40:
                self.same(len(Reader("s", ("o",), reads).reads), many)
            else:
                self.refuses("s", ("o",), reads)

    def test_any_kinds(self):
        digits = (A, ("zz", "zz", "zz"), ("abcdefgh", "b"), ("a", "b", "c"))
        reads = {("s", digit): "o" for digit in digits}
        self.same(Reader("s", ("o",), reads).digits, tuple(sorted(digits)))

    def test_order_of_the_dict_does_not_matter(self):
        items = [(("s", A), "o"), (("s", ()), "z"), (("o", B), "o"), (("z", AA), "o")]
        for order in itertools.permutations(items):
            reader = Reader("s", ("o",), dict(order))
            self.same(list(reader.reads), [("o", B), ("s", ()), ("s", A), ("z", AA)])
            self.same(reader.lines, ("first s", "ends o", "read o b o", "read s 0 z", "read s a o", "read z a+a o"))
            self.same(reader.digits, ((), A, AA, B))
            self.assertEqual(reader, Reader("s", ("o",), dict(items)))

    def test_later_changes_of_dicts(self):
        reads = {("s", A): "o"}
        reader = Reader("s", ("o",), reads)
        reads[("s", B)] = "z"
        del reads[("s", A)]
        reader.reads[("o", A)] = "z"
        reader.reads.clear()
        self.same([reader.reads, reader.states, reader.takes((A,))], [{("s", A): "o"}, ("o", "s"), True])
        self.assertEqual(reader, Reader("s", ("o",), {("s", A): "o"}))


class LinesTest(Case):
    def test_there_and_back(self):
        for reader in (binary(), ones(), closed(), BINOMIAL.reader, GUIDED.reader, *readers(40)):
            self.assertEqual(Reader.from_lines(*reader.lines), reader)
            self.assertEqual(Reader(reader.first, reader.ends, reader.reads), reader)
            self.same(Reader.from_lines(*reader.lines).lines, reader.lines)

    def test_in_any_order(self):
        lines = ("first s", "ends n o", "read s 0 z", "read s a o", "read z a+a n")
        for order in itertools.permutations(lines):
            self.same(Reader.from_lines(*order).lines, lines)
        self.same(binary().lines, ("first s", "ends o", *sorted(LINES[2:])))

    def test_what_is_no_line(self):
        lines = (
            "first", "first S", "first s t", "first  s", " first s", "first s ", "First s", "first s\n", "first 0", "first ",
            "ends", "ends ", "ends n n", "ends z n", "ends n  z", "ends n,z", "ends n+z", "ends N", "ends 0", " ends n",
            "read", "read s", "read s a", "read s a o x", "read s  a o", "read s a+ o", "read s b+a o", "read s a+a+a+a o",
            "read s 0+a o", "read s - o", "read S a o", "read s a O", "read s A o", "read s a 0", "read 0 a o", "read s 00 o",
            "read s a o ", "read s a\to", "reads s a o", "leaf a", "kind a a+a", "start put m", "page m a to 0 then m", "",
        )
        for line in (*lines, *STRANGE, ("first s",), ["first s"], LINES):
            self.refused_with(ParseError, "number", 0, Reader.from_lines, line)
            self.refused_with(ParseError, "number", 2, Reader.from_lines, "first s", "ends o", line)
            self.refused_with(ParseError, "number", 8, Reader.from_lines, *LINES, line, line)

    def test_one_sign_put_in_left_out_or_exchanged(self):
        good = ("first s", "ends n o", "read s a+b n")
        for line in good:
            others = [other for other in good if other != line]
            for at, sign in itertools.product(range(len(line) + 1), "b0+ \nA1-"):
                for near in (line[:at] + sign + line[at:], line[:at] + line[at + 1:], line[:at] + sign + line[at + 1:]):
                    self.reads_by_rule(others, near)

    def reads_by_rule(self, others, line):
        """A line is read just if it is the same as one that is written out of what it tells."""
        first, *parts = line.split(" ")
        names = all(part.isalpha() and part.islower() and len(part) <= 8 for part in parts)
        good = first == "first" and len(parts) == 1 and names
        good = good or first == "ends" and parts and names and parts == sorted(set(parts))
        if first == "read" and len(parts) == 3:
            digit = parts[1].split("+")
            plain = all(name.isalpha() and name.islower() for name in (parts[0], parts[2]))
            letters = all(name.isalpha() and name.islower() for name in digit) and digit == sorted(digit) and len(digit) < 4
            good = plain and (parts[1] == "0" or letters)
        if not good:
            self.refused_with(ParseError, "number", 2, Reader.from_lines, *others, line)
        else:
            try:
                self.assertIn(line, Reader.from_lines(*others, line).lines)
            except InvalidReader:
                # It was read as a line, but the reader would have two first lines, or none.
                pass

    def test_second_lines(self):
        self.refused_with(ParseError, "number", 1, Reader.from_lines, "first s", "first s", "ends o")
        self.refused_with(ParseError, "number", 2, Reader.from_lines, "first s", "ends o", "first t")
        self.refused_with(ParseError, "number", 2, Reader.from_lines, "first s", "ends o", "ends o")
        self.refused_with(ParseError, "number", 1, Reader.from_lines, "ends o", "ends n o")
        self.refused_with(ParseError, "number", 3, Reader.from_lines, "read s a o", "first s", "ends o", "read s a o")
        self.refused_with(ParseError, "number", 1, Reader.from_lines, "read s a o", "read s a z", "first s", "ends o")
        self.refused_with(ParseError, "number", 2, Reader.from_lines, "read s 0 z", "read z 0 z", "read s 0 o")

    def test_lines_that_are_missing(self):
        for lines in ((), ("first s",), ("ends o",), ("read s a o",), ("first s", "read s a o"), ("ends o", "read s a o")):
            self.refused(InvalidReader, Reader.from_lines, *lines)

    def test_lines_of_no_reader(self):
        for line in ("read s a s", "read z a s", "read s 0 o", "read o 0 o"):
            self.refused(InvalidReader, Reader.from_lines, "first s", "ends o", line)
        self.refused(InvalidReader, Reader.from_lines, "first o", "ends o")
        self.refused(InvalidReader, Reader.from_lines, "first s", "ends a b c d e f")
        self.refused(InvalidReader, Reader.from_lines, "first s", "ends a b c d e f g h")
        self.refused(InvalidReader, Reader.from_lines, "first s", "ends a b c d e", "read s 0 f")

    def test_parse_errors_come_first(self):
        self.refused_with(ParseError, "number", 3, Reader.from_lines, "first o", "ends o", "read s 0 o", "what")
        self.refused_with(ParseError, "number", 0, Reader.from_lines, None)
        self.refused_with(ParseError, "number", 1, Reader.from_lines, "read s a s", "read s b+a s", "first s", 0)


class WalkTest(Case):
    def test_all_short_rows(self):
        for reader in (binary(), ones(), closed(), GUIDED.reader, *readers(60, digits=((), A, AA, B))):
            for row in SHORT:
                self.same(reader.behind(row), walk(reader, row))
                self.same(reader.takes(row), taken(reader, row))

    def test_known_rows(self):
        self.same([binary().behind(()), binary().behind(((),)), binary().behind((A,)), binary().behind((B,))],
                  ["s", "z", "o", ""])
        self.same([binary().takes(()), binary().takes(((),)), binary().takes((A,)), binary().takes((B,))],
                  [True, False, True, False])
        self.same([closed().takes(()), closed().behind(()), closed().behind(((),)), closed().takes((A,))],
                  [True, "s", "", False])

    def test_empty_digits_at_the_end(self):
        for reader in (binary(), GUIDED.reader, *readers(30)):
            for row in SHORT[:40]:
                for many in (1, 2, 5):
                    digits = row + ((),) * many
                    self.same([reader.behind(digits), reader.takes(digits)], [walk(reader, digits), False])

    def test_long_rows(self):
        reader = binary()
        for ranks in (400, 401, 402):
            self.same([reader.takes(row_of(ranks)), reader.behind(row_of(ranks)), reader.behind(((),) * ranks)],
                      [True, "o", "z"])
        for ranks in (403, 404):
            for digits in (row_of(ranks), ((),) * ranks, (A,) * ranks):
                self.refused(InvalidRow, reader.takes, digits)
                self.refused(InvalidRow, reader.behind, digits)

    def test_digits_of_up_to_twenty_names(self):
        for digit in LOOSE_DIGITS:
            wanted = "o" if digit == A else "z" if digit == () else ""
            self.same([binary().behind((digit,)), binary().takes((digit, digit))], [wanted, digit == A])

    def test_what_are_no_digits(self):
        for value in (*STRANGE, *[(digit,) for digit in NO_LOOSE_DIGITS], [A], "a", A, (A, None), DEEP):
            if not (isinstance(value, tuple) and value == ()):
                self.refused(InvalidRow, binary().behind, value)
                self.refused(InvalidRow, binary().takes, value)


class SpareTest(Case):
    def test_known(self):
        self.same([binary().spare, ones().spare, closed().spare, GUIDED.reader.spare], [(), (), (), ()])
        reads = {("s", A): "o", ("o", ()): "z", ("z", ()): "z", ("x", A): "o", ("s", AA): "y", ("o", A): "x"}
        self.same(Reader("s", ("o",), reads).spare, (("o", ()), ("s", AA), ("z", ())))
        reads = {("s", A): "z", ("o", A): "o"}
        self.same(Reader("s", ("o",), reads).spare, (("o", A), ("s", A)))

    def test_a_line_is_spare_if_all_goes_without_it(self):
        for reader in readers(150, seed=3):
            wanted = []
            for place in reader.reads:
                less = Reader(reader.first, reader.ends, {other: reader.reads[other] for other in reader.reads if other != place})
                if rows_taken(less, 7) == rows_taken(reader, 7):
                    wanted.append(place)
            self.same(reader.spare, tuple(wanted))

    def test_all_of_them_can_go_together(self):
        for reader in readers(60, seed=5):
            less = Reader(reader.first, reader.ends, {place: reader.reads[place] for place in reader.reads if place not in reader.spare})
            self.same([rows_taken(less, 7) == rows_taken(reader, 7), less.spare], [True, ()])


class LeastTest(Case):
    def fewest(self, reader):
        """The number of states that are needed: the first one, and one for each way to go on from somewhere to an end."""
        ranks = 7
        onward = set()
        for state in reader.states:
            more = Reader("top", reader.ends, {**self.renamed(reader), ("top", ("go",)): self.beside(reader, state)})
            rows = frozenset(row[1:] for row in rows_taken(more, ranks) if row)
            if rows and any(walk(reader, row) == state for many in range(1, 7) for row in itertools.product(reader.digits, repeat=many)):
                onward.add(rows)
        return 1 + len(onward)

    def renamed(self, reader):
        return {(self.beside(reader, state), digit): after for (state, digit), after in reader.reads.items()}

    def beside(self, reader, state):
        return "first" if state == reader.first else state

    def test_same_rows_with_fewest_states(self):
        for reader in readers(120, seed=11):
            if len(reader) > 5:
                continue
            if rows_taken(reader, 7) == {()}:
                self.refused(InvalidOperation, reader.least)
                continue
            least = reader.least()
            self.assertIsInstance(least, Reader)
            self.same(rows_taken(least, 8) == rows_taken(reader, 8), True)
            self.same([len(least), len(least.least())], [self.fewest(reader)] * 2)

    def test_no_reader_with_fewer_states_takes_the_same(self):
        small = []
        for many in (1, 2):
            names = ["s", "a", "b"][:many + 1]
            places = list(itertools.product(names, ((), A)))
            for ends in ([("a",)] if many == 1 else [("a",), ("a", "b")]):
                for afters in itertools.product([None, *names[1:]], repeat=len(places)):
                    reads = {place: after for place, after in zip(places, afters) if after}
                    if all(place[1] or after not in ends for place, after in reads.items()):
                        small.append(Reader("s", ends, reads))
        by_rows = {}
        for reader in small:
            rows = frozenset(rows_taken(reader, 7))
            used = 1 + len({*reader.ends} | {name for place in reader.reads for name in (place[0], reader.reads[place])} - {"s"})
            by_rows.setdefault(rows, []).append(used)
        for reader in [*small, *readers(200, seed=13)]:
            rows = frozenset(rows_taken(reader, 7))
            if rows == {()}:
                self.refused(InvalidOperation, reader.least)
            elif rows in by_rows:
                self.same(len(reader.least()), min(by_rows[rows]))
            else:
                self.assertGreater(len(reader.least()), 3)

    def test_known(self):
        self.same(len(GUIDED.reader.least()), 4)
        twin = Reader.from_lines("first s", "ends n o", "read s a n", "read n a o", "read o a n", "read n 0 y", "read o 0 z",
                                 "read y a n", "read z a n")
        self.same([len(twin), len(twin.least())], [5, 3])
        unmet = Reader.from_lines("first s", "ends n o", "read s a n", "read x a o", "read s 0 z")
        self.same([unmet.least().lines], [("first s", "ends n", "read s a n")])

    def split(self, chance, reader):
        """A reader that takes the same rows, with more states: each line leads to any one of several that are alike."""
        names = chance.sample([name for name in "abcdefgh"], 5)
        alike = {state: [] for state in reader.states if state != reader.first}
        for at, name in enumerate(names):
            alike[(list(alike) * 5)[at]].append(name)
        alike[reader.first] = ["s"]
        reads = {}
        for (state, digit), after in reader.reads.items():
            for twin in alike[state]:
                reads[twin, digit] = chance.choice(alike[after])
        return Reader("s", tuple(sorted(name for state in reader.ends for name in alike[state])), reads)

    def test_states_that_are_alike_are_one(self):
        chance = random.Random(31)
        for reader in readers(200, seed=29):
            if len(reader) <= 4 and rows_taken(reader, 7) != {()}:
                more = self.split(chance, reader)
                self.same([parting_row(more, reader), len(more.least())], [None, len(reader.least())])

    def test_states_that_are_alike_by_any_names(self):
        lines = ("first s", "ends O", "read s 0 A", "read s a C", "read A 0 B", "read A a O", "read B a O", "read C 0 B", "read C a O")
        for names in itertools.permutations("abcd"):
            mapped = []
            for line in lines:
                for old, new in zip("ABCO", names):
                    line = line.replace(old, new)
                mapped.append(line)
            reader = Reader.from_lines(*mapped)
            self.same([len(reader), len(reader.least()), parting_row(reader, reader.least())], [5, 4, None])

    def test_the_first_state_stands_for_itself(self):
        # From z the same rows lead to an end as from s, but no line can lead to s.
        self.same(len(binary().least()), 3)
        least = Reader.from_lines("first s", "ends o", "read s a o", "read s 0 y", "read y a o", "read y 0 z", "read z a o",
                                  "read z 0 y").least()
        self.same([len(least), least.first in [after for after in least.reads.values()]], [3, False])

    def test_nothing_but_the_empty_row(self):
        for reader in (closed(), Reader("s", ("o",), {("s", A): "z"}), Reader("s", ("o",), {("z", A): "o", ("o", A): "o"}),
                       Reader("s", ("o",), {("s", ()): "z", ("z", ()): "z"})):
            self.refused(InvalidOperation, reader.least)

    def test_the_reader_stays_as_it_was(self):
        reader = Reader.from_lines("first s", "ends n o", "read s a n", "read x a o", "read s 0 z")
        reader.least()
        self.same(reader.lines, ("first s", "ends n o", "read s 0 z", "read s a n", "read x a o"))


class TwoReadersTest(Case):
    def first_parting(self, one, other, ranks=6):
        """The first one of the shortest rows that just one of them takes, by trying all rows."""
        for many in range(1, ranks):
            for row in words(one, many, other):
                if taken(one, row) != taken(other, row):
                    return row
        return None

    def test_against_all_rows(self):
        small = [reader for reader in readers(90, seed=17) if len(reader) <= 4]
        for one, other in zip(small, small[1:] + small[:1]):
            row = self.first_parting(one, other)
            self.same([parting_row(one, other), parting_row(other, one)], [row, row])
            ours, theirs = rows_taken(one, 9), rows_taken(other, 9)
            self.same([includes(one, other), includes(other, one)], [theirs <= ours, ours <= theirs])

    def test_with_several_digits(self):
        small = readers(60, seed=19, digits=((), A, AA, B))
        for one, other in zip(small, small[1:] + small[:1]):
            row = self.first_parting(one, other, 5)
            if row is not None:
                self.same(parting_row(one, other), row)

    def test_the_same_rows(self):
        for reader in readers(60, seed=23):
            self.same([includes(reader, reader), parting_row(reader, reader)], [True, None])
            if rows_taken(reader, 7) != {()}:
                least = reader.least()
                self.same([includes(reader, least), includes(least, reader), parting_row(reader, least)], [True, True, None])
            self.same([includes(reader, closed()), includes(closed(), reader)], [True, rows_taken(reader, 7) == {()}])

    def test_the_shortest_and_first_one(self):
        lines = ("first s", "ends o", "read s a o", "read o 0 z", "read z a o")
        one = Reader.from_lines(*lines)
        self.same(parting_row(one, Reader.from_lines(*lines, "read o b o", "read o a o")), (A, A))
        self.same(parting_row(Reader.from_lines(*lines, "read o b o"), one), (A, B))
        self.same(parting_row(Reader.from_lines(*lines, "read o b o"), Reader.from_lines(*lines, "read o a o")), (A, A))
        self.same(parting_row(Reader.from_lines(*lines, "read s a+a o"), Reader.from_lines(*lines, "read z b o")), (AA,))
        self.same(parting_row(Reader.from_lines(*lines, "read s 0 z"), Reader.from_lines(*lines, "read z b o")), ((), A))

    def test_rows_of_many_ranks(self):
        ring = ["read s a a", "read a a b", "read b a c", "read c a d", "read d a e", "read e a a"]
        one, other = Reader.from_lines("first s", "ends a b c d", *ring), Reader.from_lines("first s", "ends a b c d e", *ring)
        self.same([parting_row(one, other), includes(one, other), includes(other, one)], [(A,) * 5, False, True])
        five = ["read s a a", "read a a b", "read b a c", "read c a d", "read d a a"]
        other = Reader.from_lines("first s", "ends a b c d", *five)
        all_but_one = Reader.from_lines("first s", "ends a b c e", *ring)
        self.same(parting_row(Reader.from_lines("first s", "ends a", *ring), Reader.from_lines("first s", "ends a", *five)),
                  (A,) * 5)
        self.same(parting_row(all_but_one, other), (A,) * 4)

    def test_no_readers(self):
        for value in STRANGE:
            if not isinstance(value, Reader):
                for call in (includes, parting_row):
                    self.refused(InvalidReader, call, value, binary())
                    self.refused(InvalidReader, call, binary(), value)
                    self.refused(InvalidReader, call, value, value)


class SignsTest(Case):
    def test_len_and_str(self):
        self.same([len(binary()), len(ones()), len(GUIDED.reader)], [3, 2, 4])
        self.same([str(ones()), str(closed()), str(GUIDED.reader)],
                  ["reader with 2 states, 2 reads", "reader with 2 states, 0 reads", "reader with 4 states, 10 reads"])

    def test_equal(self):
        self.same([binary() == binary(), binary() != binary(), binary() == BINOMIAL.reader], [True, False, True])
        others = (ones(), closed(), Reader("t", ("o",), {}), Reader("s", ("n", "o"), {}), Reader("s", ("o",), {("s", A): "z"}),
                  Reader("s", ("o",), {("s", A): "o"}), Reader("s", ("o",), {("s", ()): "z"}))
        for one, other in itertools.permutations(others, 2):
            self.same([one == other, one != other], [False, True])

    def test_equal_to_no_other_value(self):
        for value in (*STRANGE, binary().lines, binary().reads, "reader with 3 states, 6 reads", 3, BINOMIAL):
            self.same([binary() == value, binary() != value, value == binary(), value != binary()], [False, True, False, True])

    def test_cannot_be_iterated_over(self):
        self.cannot_be_iterated_over(binary())
