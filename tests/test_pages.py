"""Pages and machines: [0.2], [0.4], [0.11], [0.12], [0.21] and stage 6."""

import itertools
import random

import linkbooks.book.pages as module
from linkbooks.base.kinds import Kinds
from linkbooks.base.rows import keys_of, trimmed
from linkbooks.book.pages import Machine, Page
from linkbooks.errors import InvalidKinds, InvalidOperation, InvalidPage, ParseError, TooMany, UnknownName
from tests.helper import BINOMIAL, BINOMIAL_LINES, DEEP, GUIDED, GUIDED_LINES, STRANGE, ZZ, ZZ_MACHINE, ZZ_PAGE, Case
from tests.machines import at_rank, gone
from tests.test_rows import LONG, LONGER, NO_LOOSE_DIGITS, row_of

A, AA, B = ("a",), ("a", "a"), ("b",)
DOUBLE = Kinds("a", {"a": ("a", "a")})
MIXED_LINES = ("kind a a+a", "kind b a+a+b", "kind c a+b", "page m a+a to a then m", "page m a+a+a+a to a+a then n",
               "page n a+a+a+b to c then m", "page n a+a+a+b+b to b+c then m", "page n a+b to 0 then m", "page m 0 to 0 then n",
               "page n c+c to 0 then n", "page m a+a+a+a+a+a+b+b to b+b then n")
MIXED = Kinds("a", {"a": ("a", "a"), "b": ("a", "a", "b"), "c": ("a", "b")})


def mixed():
    return Machine(MIXED, tuple(Page.from_line(line) for line in MIXED_LINES if line.startswith("page")))


def pages_over(many):
    """So many pages of different places, over one kind."""
    places = list(itertools.product("abcdefghijklmnop", [("a",) * size for size in range(9)]))[:many]
    return tuple(Page(note, pool, (), note) for note, pool in places)


def double():
    return Machine(DOUBLE, (Page("m", ("a",) * 3, ("a",), "m"), Page.from_line("page m a+a to a then m")))


class InterfaceTest(Case):
    def test_constants(self):
        self.same([module.MAX_POOL, module.MAX_MADE], [8, 2])

    def test_classes_define_all(self):
        self.defined_in(module, "Page", "Machine")
        self.methods_of(Page, {"from_line": ["line"], "left": ["kinds"]}, ("note", "pool", "made", "after", "line", "place"))
        self.methods_of(Machine, {"step": ["note", "pool"], "run": ["note", "digits", "*", "carried=()"]}, ("kinds", "pages", "notes"))
        self.assertIsInstance(vars(Page)["from_line"], classmethod)
        for name in ("__init__", "__len__", "__eq__", "__str__"):
            self.assertIn(name, vars(Page))
            self.assertIn(name, vars(Machine))
        for name in ("__getitem__", "__contains__"):
            self.assertIn(name, vars(Machine))
        self.signature(Page, "(note, pool, made, after)")
        self.signature(Machine, "(kinds, pages)")

    def methods_of(self, owner, methods, properties):
        plain = {name: parameters for name, parameters in methods.items() if "*" not in parameters}
        Case.methods_of(self, owner, plain, properties)
        if owner is Machine:
            self.assertIn("run", vars(Machine))
            self.signature(Machine.run, "(self, note, digits, *, carried=())")

    def test_examples(self):
        machine = double()
        found = [str(machine), machine.step("m", ("a",) * 3), machine.step("m", A), machine["m", AA].left(DOUBLE)]
        self.same(found, ["machine with 2 pages", (A, A, "m"), (A, (), "m"), ()])
        steps = ((AA, A, "m"), (AA, A, "m"), (A, (), "m"), (A, (), "m"))
        self.same(machine.run("m", (A, A, (), A), carried=A), (((), (), A, A), steps))


class PageTest(Case):
    def refuses(self, *args):
        self.refused(InvalidPage, Page, *args)

    def test_all_that_it_tells(self):
        page = Page("m", ("a", "a", "b"), B, "n")
        self.same([page.note, page.pool, page.made, page.after, page.line, page.place, str(page), len(page)],
                  ["m", ("a", "a", "b"), B, "n", "page m a+a+b to b then n", ("m", ("a", "a", "b")), "page m a+a+b to b then n", 1])

    def test_notes_are_names(self):
        for value in STRANGE:
            self.refuses(value, AA, A, "m")
            self.refuses("m", AA, A, value)
        self.same(Page("abcdefgh", AA, A, "zyxwvuts").line, "page abcdefgh a+a to a then zyxwvuts")

    def test_pools_of_eight_and_nine(self):
        for many in range(12):
            if many <= 8:
                page = Page("m", ("a",) * many, (), "m")
                self.same([page.pool, page.line], [A * many, f"page m {'+'.join(A * many) or '0'} to 0 then m"])
                self.assertEqual(Page.from_line(page.line), page)
            else:
                self.refuses("m", ("a",) * many, (), "m")
                self.refused(ParseError, Page.from_line, f"page m {'+'.join(A * many)} to 0 then m")

    def test_two_and_three_made(self):
        for many in range(5):
            if many <= 2:
                page = Page("m", ("a",) * 8, ("a",) * many, "m")
                self.same([page.made, len(page)], [A * many, many])
                self.assertEqual(Page.from_line(page.line), page)
            else:
                self.refuses("m", ("a",) * 8, ("a",) * many, "m")
                self.refused(ParseError, Page.from_line, f"page m a to {'+'.join(A * many)} then m")

    def test_pools_and_made_are_sorted(self):
        for value in (("b", "a"), ("a", "c", "b"), ["a", "a"], "a", ("A",), ("a", None), (0,), None, (("a",),), {"a": "a"}, LONGER):
            self.refuses("m", value, (), "m")
            self.refuses("m", ("a",) * 8, value, "m")
        for value in STRANGE:
            if not (isinstance(value, tuple) and value in ((), A, AA)):
                self.refuses("m", value, (), "m")
                self.refuses("m", ("a",) * 8, value, "m")

    def test_whatever_the_kinds_are(self):
        for args in (("m", (), A, "m"), ("m", A, ("x", "y"), "n"), ("m", ("p", "q"), ("z",), "m"), ("m", (), (), "m")):
            page = Page(*args)
            self.same((page.note, page.pool, page.made, page.after), args)

    def test_lines_there_and_back(self):
        for line in (*BINOMIAL_LINES, *GUIDED_LINES, *MIXED_LINES, "page abcdefgh 0 to 0 then zyxwvuts",
                     "page m a+abcdefgh+b+b+c+d+e+f to a+b then m", "page page to to then then then"):
            if line.startswith("page"):
                self.same([Page.from_line(line).line, str(Page.from_line(line))], [line, line])

    def test_values_that_are_no_line(self):
        lines = (
            "", "page", "page m", "page m a+a to a then", "page m a+a to a then m n", "page m a+a a then m", "page m a+a to a m",
            "page m a+a to then m", "page m to a then m", "page a+a to a then m", "page m a+a into a then m",
            "page m a+a to a than m", "Page m a+a to a then m", "pages m a+a to a then m", "page M a+a to a then m",
            "page m a+a to a then M", "page m a+A to a then m", "page m a+a to A then m", "page m b+a to a then m",
            "page m a+a+a+a+b to b+a then m", "page m - to a then m", "page m a+a to - then m", "page 0 a+a to a then m",
            "page m a+a to a then 0", "page m 0+a to a then m", "page m a+a to 0+a then m", "page m 00 to a then m",
            " page m a+a to a then m", "page m a+a to a then m ", "page  m a+a to a then m", "page m a + a to a then m",
            "page m a+a to a then m\n", "page\tm a+a to a then m", "page m a++a to a then m", "page m a+a+ to a then m",
            "page mmmmmmmmm a+a to a then m", "read s a o", "leaf a", "kind a a+a", "start put m",
        )
        for line in (*lines, *STRANGE, ("page", "m"), ["page m a+a to a then m"], ("m", AA, A, "m")):
            self.refused_with(ParseError, "number", None, Page.from_line, line)

    def test_one_sign_put_in_left_out_or_exchanged(self):
        line = "page m a+ab to 0 then n"
        for at, sign in itertools.product(range(len(line) + 1), "bt0+ \nA1-"):
            for near in {line[:at] + sign + line[at:], line[:at] + line[at + 1:], line[:at] + sign + line[at + 1:]}:
                words = near.split(" ")
                good = len(words) == 7 and (words[0], words[3], words[5]) == ("page", "to", "then")
                good = good and all(self.plain(word) for word in (words[1], words[6]))
                if good and all(word == "0" or self.ordered(word.split("+")) for word in (words[2], words[4])):
                    self.same(Page.from_line(near).line, near)
                else:
                    self.refused_with(ParseError, "number", None, Page.from_line, near)

    def plain(self, word):
        return 0 < len(word) <= 8 and set(word) <= set("abcdefghijklmnopqrstuvwxyz")

    def ordered(self, names):
        return names == sorted(names) and all(self.plain(name) for name in names)

    def test_left(self):
        known = (("m", AA, A, ()), ("m", ("a", "a", "a"), A, A), ("m", ("a",) * 8, AA, ("a",) * 4), ("m", AA, (), AA), ("m", (), (), ()))
        for note, pool, made, left in known:
            self.same(Page(note, pool, made, "m").left(DOUBLE), left)
        self.same(Page("m", ("a", "a", "a", "b", "b"), ("b", "c"), "n").left(MIXED), ())
        self.same(Page("m", ("a", "a", "a", "b", "b", "c"), ("b",), "n").left(MIXED), ("a", "b", "c"))
        self.same(Page("m", ("a", "a", "b", "b", "b", "c"), ("c", "c"), "n").left(MIXED), ("b", "c"))

    def test_parts_that_cannot_be_taken_out(self):
        for pool, made in (((), A), (A, A), (B, B), (("a", "a", "a"), AA), (("a", "b"), B), (("a", "a", "b"), ("b", "c")),
                           (("a", "a", "b", "b"), ("b", "b")), (("b", "b"), ("c",)), (("c",) * 8, ("c",)), (("a",) * 8, ("b",))):
            self.refused(InvalidOperation, Page("m", pool, made, "m").left, MIXED)

    def test_a_kind_that_is_none(self):
        for pool, made in ((("z",), ()), (("a", "a", "z"), A), (AA, ("z",)), (AA, ("a", "z")), (("b", "b"), ())):
            self.refused(InvalidOperation, Page("m", pool, made, "m").left, DOUBLE)

    def test_a_leaf_without_a_making_is_not_made(self):
        self.refused(InvalidOperation, Page("m", AA, A, "m").left, Kinds("a", {}))
        self.refused(InvalidOperation, Page("m", (), A, "m").left, Kinds("a", {"b": AA}))
        self.same(Page("m", AA, B, "m").left(Kinds("a", {"b": AA})), ())

    def test_left_of_no_kinds(self):
        for value in STRANGE:
            if not isinstance(value, Kinds):
                self.refused(InvalidKinds, Page("m", AA, A, "m").left, value)
                self.refused(InvalidKinds, Page("m", ("q",), (), "m").left, value)

    def test_equal(self):
        page = Page("m", AA, A, "n")
        self.same([page == Page.from_line("page m a+a to a then n"), page != Page("m", AA, A, "n")], [True, False])
        for other in (Page("n", AA, A, "n"), Page("m", A, A, "n"), Page("m", AA, (), "n"), Page("m", AA, A, "m")):
            self.same([page == other, page != other], [False, True])
        for value in (*STRANGE, page.line, page.place, ("m", AA, A, "n"), double()):
            self.same([page == value, page != value, value == page], [False, True, False])

    def test_len_tells_what_is_made(self):
        self.same([len(Page("m", AA, (), "m")), len(Page("m", AA, A, "m")), len(Page("m", AA, ("a", "b"), "m"))], [0, 1, 2])

    def test_cannot_be_iterated_over(self):
        self.cannot_be_iterated_over(Page("m", AA, A, "n"))
        self.cannot_be_iterated_over(Page("m", AA, (), "n"))


class MachineTest(Case):
    def test_all_that_it_tells(self):
        machine = double()
        self.same([machine.kinds.lines, [page.line for page in machine.pages], machine.notes, len(machine)],
                  [DOUBLE.lines, ["page m a+a to a then m", "page m a+a+a to a then m"], ("m",), 2])
        self.same([type(machine.pages), mixed().notes], [tuple, ("m", "n")])
        self.same(Machine(DOUBLE, (Page("z", AA, (), "b"), Page("c", AA, (), "z"))).notes, ("b", "c", "z"))

    def test_no_pages(self):
        machine = Machine(DOUBLE, ())
        self.same([machine.pages, machine.notes, len(machine), str(machine)], [(), (), 0, "machine with 0 pages"])
        self.same(machine.run("x", (AA, A)), ((AA, A), ((AA, (), "x"), (A, (), "x"))))

    def test_pages_in_any_order(self):
        pages = [Page("n", AA, A, "m"), Page("m", AA, A, "m"), Page("m", ("a", "a", "a"), A, "m"), Page("m", (), (), "n")]
        for order in itertools.permutations(pages):
            machine = Machine(DOUBLE, order)
            self.same([page.place for page in machine.pages], [("m", ()), ("m", AA), ("m", ("a", "a", "a")), ("n", AA)])
            self.assertEqual(machine, Machine(DOUBLE, tuple(pages)))

    def test_no_kinds(self):
        for value in STRANGE:
            if not isinstance(value, Kinds):
                self.refused(InvalidKinds, Machine, value, ())
                self.refused(InvalidKinds, Machine, value, None)

    def test_pages_are_a_tuple_of_pages(self):
        page = Page("m", AA, A, "m")
        for value in (*STRANGE, [page], page, (page, None), (page.line,), (page, page.line), {page.place: page}, ((page,),)):
            if not (isinstance(value, tuple) and value == ()):
                self.refused(InvalidPage, Machine, DOUBLE, value)

    def test_two_pages_of_one_place(self):
        page = Page("m", AA, A, "m")
        for other in (page, Page("m", AA, A, "n"), Page("m", AA, (), "m")):
            self.refused(InvalidPage, Machine, DOUBLE, (page, other))
            self.refused(InvalidPage, Machine, DOUBLE, (page, Page("n", AA, A, "m"), other))
        self.same(len(Machine(DOUBLE, (page, Page("n", AA, A, "m"), Page("m", A, (), "m")))), 3)

    def test_eighty_and_eighty_one_pages(self):
        for many in (79, 80, 81, 90):
            if many <= 80:
                self.same(len(Machine(DOUBLE, pages_over(many)).pages), many)
            else:
                self.refused(InvalidPage, Machine, DOUBLE, pages_over(many))

    def test_parts_that_cannot_be_taken_out(self):
        good = Page("x", AA, A, "x")
        for page in (Page("m", A, A, "m"), Page("m", ("a",) * 3, AA, "m"), Page("m", (), A, "m"), Page("m", ("b",), (), "m"),
                     Page("m", AA, B, "m"), Page("m", ("a", "a", "z"), A, "m")):
            self.refused(InvalidPage, Machine, DOUBLE, (page,))
            self.refused(InvalidPage, Machine, DOUBLE, (good, page))
        self.refused(InvalidPage, Machine, Kinds("a", {}), (good,))

    def test_later_changes_do_not_matter(self):
        machine, pages = double(), list(double().pages)
        self.assertEqual(Machine(DOUBLE, tuple(pages)), machine)
        pages.clear()
        self.same(len(machine), 2)

    def test_step(self):
        for machine, lines in ((BINOMIAL.machine, BINOMIAL_LINES), (GUIDED.machine, GUIDED_LINES), (mixed(), MIXED_LINES)):
            names = machine.kinds.names
            for note in (*machine.notes, "never"):
                for many in range(10):
                    for pool in itertools.combinations_with_replacement(names, many):
                        self.same(machine.step(note, pool), at_rank(lines, note, pool))

    def test_step_with_pools_of_up_to_twenty(self):
        for many in (8, 9, 19, 20):
            self.same(double().step("m", ("a",) * many), (A * many, (), "m"))
        self.refused(InvalidOperation, double().step, "m", ("a",) * 21)

    def test_step_with_what_is_none(self):
        machine = double()
        for value in STRANGE:
            self.refused(InvalidOperation, machine.step, value, AA)
        for value in (*STRANGE, *NO_LOOSE_DIGITS, B, ("a", "b"), LONG, ["a"]):
            if not (isinstance(value, tuple) and value in ((), A, AA)):
                self.refused(InvalidOperation, machine.step, "m", value)


class RunTest(Case):
    def test_against_a_machine_made_here(self):
        chance = random.Random(6)
        books = ((BINOMIAL.machine, BINOMIAL_LINES), (GUIDED.machine, GUIDED_LINES), (mixed(), MIXED_LINES))
        for machine, lines in books:
            names = machine.kinds.names
            for _ in range(400):
                digits = tuple(tuple(sorted(chance.choices(names, k=chance.choice((0, 0, 1, 2, 3, 5, 9))))) for _ in range(chance.randrange(6)))
                carried = tuple(sorted(chance.choices(names, k=chance.choice((0, 0, 1, 2, 4)))))
                note = chance.choice((*machine.notes, "x"))
                wanted = gone(lines, note, (digits,), carried)
                self.same(machine.run(note, digits, carried=carried), wanted)
                if not carried:
                    self.same(machine.run(note, digits), wanted)

    def test_nothing_to_do(self):
        self.same([double().run("m", ()), double().run("x", (), carried=())], [((), ())] * 2)

    def test_empty_digits_are_gone_through(self):
        self.same(double().run("m", ((), (), ())), ((), (((), (), "m"),) * 3))
        self.same(double().run("m", (A, (), ())), ((A,), ((A, (), "m"), ((), (), "m"), ((), (), "m"))))
        self.same(GUIDED.machine.run("k", (A, (), ())), ((A,), ((A, (), "k"), ((), (), "e"), ((), (), "e"))))

    def test_what_is_carried_above_the_last_digit(self):
        self.same(double().run("m", (AA,)), (((), A), ((AA, A, "m"), (A, (), "m"))))
        self.same(double().run("m", (), carried=A), ((A,), ((A, (), "m"),)))
        self.same(double().run("m", (), carried=AA), (((), A), ((AA, A, "m"), (A, (), "m"))))
        two = Machine(DOUBLE, (Page("m", ("a",) * 4, AA, "n"), Page("n", AA, A, "o")))
        self.same(two.run("m", (), carried=("a",) * 4), (((), (), A), ((("a",) * 4, AA, "n"), (AA, A, "o"), (A, (), "o"))))

    def test_keys_stay_as_many(self):
        chance = random.Random(8)
        for machine in (BINOMIAL.machine, GUIDED.machine):
            for _ in range(100):
                digits = tuple(A * chance.randrange(7) for _ in range(chance.randrange(8)))
                for note in machine.notes:
                    row, steps = machine.run(note, digits, carried=A)
                    self.same(keys_of(DOUBLE, row), keys_of(DOUBLE, trimmed(digits)) + 1)

    def test_long_rows(self):
        for ranks in (400, 401, 402):
            row, steps = double().run("m", (A,) * ranks, carried=A)
            self.same([row == row_of(ranks + 1), len(steps)], [True, ranks + 1])
            self.same(double().run("m", ((),) * ranks), ((), (((), (), "m"),) * ranks))
        for digits in ((A,) * 403, ((),) * 403, row_of(403)):
            self.refused(InvalidOperation, double().run, "m", digits)

    def test_too_many_in_a_pool(self):
        machine = double()
        self.same(machine.run("m", (("a",) * 20,)), ((A * 20,), ((A * 20, (), "m"),)))
        self.same(machine.run("m", (("a",) * 17,), carried=("a",) * 3)[0], (A * 20,))
        self.refused_with(TooMany, "limit", 20, machine.run, "m", (("a",) * 18,), carried=("a",) * 3)
        self.refused_with(TooMany, "limit", 20, machine.run, "m", (A,), carried=("a",) * 20)
        self.refused_with(TooMany, "limit", 20, machine.run, "m", (AA, ("a",) * 20))
        self.refused_with(TooMany, "limit", 20, machine.run, "m", ((), A, AA, ("a",) * 20))
        self.same(machine.run("m", (A, ("a",) * 20), carried=())[0], (A, A * 20))

    def test_too_many_comes_behind_the_other_errors(self):
        machine, full = double(), ("a",) * 20
        for value in STRANGE:
            self.refused(InvalidOperation, machine.run, value, (full,), carried=A)
        self.refused(InvalidOperation, machine.run, "m", (full, B), carried=A)
        self.refused(InvalidOperation, machine.run, "m", (full, ("a",) * 21), carried=A)
        self.refused(InvalidOperation, machine.run, "m", (full,), carried=("a",) * 21)
        self.refused(InvalidOperation, machine.run, "m", (full,), carried=B)
        self.refused(InvalidOperation, machine.run, "m", (AA, full, None))

    def test_what_is_none(self):
        machine = double()
        for value in STRANGE:
            self.refused(InvalidOperation, machine.run, value, (A,))
            if not (isinstance(value, tuple) and value == ()):
                self.refused(InvalidOperation, machine.run, "m", value)
            if not (isinstance(value, tuple) and value in ((), A, AA)):
                self.refused(InvalidOperation, machine.run, "m", (A,), carried=value)
        for digit in (*NO_LOOSE_DIGITS, B, LONG):
            self.refused(InvalidOperation, machine.run, "m", (digit,))
            self.refused(InvalidOperation, machine.run, "m", (A, digit, ()))
            self.refused(InvalidOperation, machine.run, "m", (A,), carried=digit)
        for value in ([A], [], "a", A, DEEP):
            self.refused(InvalidOperation, machine.run, "m", value)

    def test_carried_is_a_keyword(self):
        with self.assertRaises(TypeError):
            double().run("m", (A,), A)

    def test_nothing_is_changed(self):
        machine, digits = double(), (A, A, (), A)
        first = machine.run("m", digits, carried=A)
        self.same([digits, machine.run("m", digits, carried=A) == first, str(machine)], [(A, A, (), A), True, "machine with 2 pages"])


class PlacesTest(Case):
    def test_pages_by_place(self):
        for machine in (double(), mixed(), GUIDED.machine):
            for page in machine.pages:
                self.same(machine[page.note, page.pool].line, page.line)
                self.same(machine[page.place].line, page.line)
                self.same([page.place in machine, page in machine], [True, True])

    def test_what_is_no_place(self):
        machine = double()
        places = (("m", A), ("n", AA), ("m", ()), ("m", ["a", "a"]), ["m", AA], ("m",), ("m", AA, "m"), (AA, "m"), ("m", "aa"), "m",
                  ("m", ("a",) * 9), ("M", AA), (None, AA), ("m", None), ("m", {}), (["m"], AA), ("m", AA, ()), ("m", (AA,)), 0, 1)
        for place in (*places, *STRANGE, double().pages[0], "page m a+a to a then m", DEEP):
            with self.assertRaises(UnknownName) as caught:
                machine[place]
            self.assertIs(caught.exception.word, place)
            if not isinstance(place, Page):
                self.same(place in machine, False)

    def test_which_pages_it_has(self):
        machine = double()
        self.same([Page("m", AA, A, "m") in machine, Page("m", AA, A, "n") in machine, Page("m", AA, (), "m") in machine,
                   Page("n", AA, A, "m") in machine, ZZ_PAGE in machine, ZZ_PAGE in ZZ_MACHINE],
                  [True, False, False, False, False, True])
        self.same(["page m a+a to a then m" in machine, "m" in machine, DOUBLE in machine, machine in machine], [False] * 4)

    def test_cannot_be_iterated_over(self):
        self.cannot_be_iterated_over(double())
        self.cannot_be_iterated_over(Machine(DOUBLE, ()))

    def test_equal(self):
        self.same([double() == double(), double() != double(), double() == BINOMIAL.machine], [True, False, True])
        wider = Kinds("a", {"a": AA, "b": AA})
        others = (Machine(DOUBLE, ()), Machine(wider, ()), Machine(wider, double().pages), Machine(DOUBLE, double().pages[:1]),
                  Machine(DOUBLE, (Page("m", AA, A, "n"), Page("m", ("a",) * 3, A, "m"))), ZZ_MACHINE, double())
        for one, other in itertools.permutations(others, 2):
            self.same([one == other, one != other], [False, True])
        for value in (*STRANGE, double().pages, "machine with 2 pages", 2, DOUBLE):
            self.same([double() == value, double() != value, value == double()], [False, True, False])

    def test_str(self):
        self.same([str(GUIDED.machine), str(ZZ_MACHINE), len(GUIDED.machine)], ["machine with 6 pages", "machine with 1 pages", 6])
        self.same(ZZ_MACHINE.kinds == ZZ, True)
