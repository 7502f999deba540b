"""Plans: [0.4] to [0.6], [0.12], [0.20], [0.21], [15.1], [15.2] and stage 15."""

import functools
import itertools
import random

import linkbooks.decide.plans as module
from linkbooks.base.rows import keys_of, read_row
from linkbooks.book.books import Book, renamed_book
from linkbooks.decide.papers import is_good
from linkbooks.decide.plans import Plan, are_alike, is_parting, parting_rows
from linkbooks.errors import EmptyHeap, InvalidBook, InvalidOperation, InvalidPlan, Spoilt, TooMany
from linkbooks.heaps.heaps import Heap
from tests.books import BOOKS, EVEN, FULL, HYPER, MIXED, NOTHING, rows_up_to
from tests.deciding import FEW, LESS, drawn_books, is_right, outcome
from tests.helper import BINOMIAL, BINOMIAL_LINES, GREAT, GUIDED, STRANGE, TOO_GREAT, Case
from tests.models import after_meld, after_put, plain_heap
from tests.test_heaps import tree_of
from tests.test_rows import row_of
from tests.test_tables import TOO_GREAT_BOOK

A = ("a",)
LETTERS = ("A", "B", "C")
DRAWN = drawn_books(53, 25)


@functools.lru_cache(None)
def shapes(deeds):
    """All plans with just so many deeds: a letter, or a tuple of what is put in, or of both sides of a meld."""
    if deeds == 0:
        return list(LETTERS)
    found = [(inner,) for inner in shapes(deeds - 1)]
    for left in range(deeds):
        found += list(itertools.product(shapes(left), shapes(deeds - 1 - left)))
    return found


def text_of(shape):
    """The text of a plan."""
    if isinstance(shape, str):
        return shape
    return text_of(shape[0]) + "'" if len(shape) == 1 else f"({text_of(shape[0])}+{text_of(shape[1])})"


def letters_in(shape):
    """The letters in a plan."""
    return {shape} if isinstance(shape, str) else set().union(*[letters_in(part) for part in shape])


def deeds_in(shape):
    """The number of deeds."""
    return 0 if isinstance(shape, str) else 1 + sum(deeds_in(part) for part in shape)


def run(book, shape, rows):
    """The pair of whether a plan is done and of the row to which it comes, or of the one at which it fails."""
    if isinstance(shape, str):
        return True, rows[shape]
    found = []
    for part in shape:
        done, row = run(book, part, rows)
        if not done:
            return False, row
        found.append(row)
    row = outcome(book, found[0], ("put",) if len(shape) == 1 else ("meld", found[1]))[0]
    return is_right(book, row), row


def all_rows(book, letters, keys):
    """All dicts from letters to right rows with at most so many keys in all, those with few keys first."""
    by_keys = rows_up_to(book, keys)
    for all_keys in range(keys + 1):
        for each in itertools.product(by_keys, repeat=len(letters)):
            if sum(each) == all_keys:
                for rows in itertools.product(*[by_keys[many] for many in each]):
                    yield all_keys, dict(zip(letters, rows))


def parted(book, one, other, rows):
    """Whether two plans part at rows."""
    (done, row), (also, beside) = run(book, one, rows), run(book, other, rows)
    return done != also or (done and row != beside)


PAIRS = [("((A+B)+C)", "(A+(B+C))"), ("(A'+B)", "(A+B)'"), ("A''", "(A+A)"), ("(A+B)", "(B+A)"), ("A", "A"), ("A", "B"), ("A'", "A"), ("(A'+B')", "(A+B)''"),
         ("((A+A)+(A+A))", "(((A+A)+A)+A)"), ("A'", "(A+B)"), ("((A+B)'+C)", "((A+C)'+B)"), ("A''''", "(A+A)"), ("(A+A)'", "(A'+A)"), ("C'", "C''")]


class InterfaceTest(Case):
    def test_names(self):
        self.same(module.MAX_PLAN, 4)
        self.defined_in(module, "Plan", "are_alike", "parting_rows", "is_parting")
        self.signature(Plan, "(text)")
        self.methods_of(Plan, {"run": ["book", "rows"], "run_heaps": ["book", "heaps", "*keys"], "renamed": ["letters"]}, ("text", "letters", "deeds"))
        for name in ("__init__", "__len__", "__eq__", "__str__"):
            self.assertIn(name, vars(Plan))
        for call in (are_alike, parting_rows):
            self.signature(call, "(book, one, other)")
        self.signature(is_parting, "(book, one, other, value)")

    def test_examples(self):
        one, other = Plan("((A+B)+C)"), Plan("(A+(B+C))")
        self.same([are_alike(BINOMIAL, one, other), are_alike(BINOMIAL, Plan("(A'+B)"), Plan("(A+B)'")), one.letters, one.deeds], [True, True, ("A", "B", "C"), 2])
        rows = parting_rows(LESS, one, other)
        self.same([parting_rows(BINOMIAL, Plan("A'"), Plan("(A+B)")), sum([keys_of(LESS.kinds, rows[letter]) for letter in rows]), Plan("A''").run(GUIDED, {"A": read_row("a")})],
                  [{"A": (), "B": ()}, 6, (A, A)])


class TextTest(Case):
    def test_all_plans_with_few_deeds(self):
        for deeds in range(4):
            for shape in shapes(deeds):
                plan, text = Plan(text_of(shape)), text_of(shape)
                self.same([plan.text, str(plan), plan.deeds, len(plan), plan.letters], [text, text, deeds, deeds, tuple(sorted(letters_in(shape)))])
        for shape in shapes(4)[::7]:
            self.same([Plan(text_of(shape)).deeds, Plan(text_of(shape)).text], [4, text_of(shape)])

    def test_texts_of_none(self):
        for text in (*[value for value in STRANGE if value != "A"], "", "'", "()", "(A)", "(A+)", "(+A)", "A+B", "AB", "A B", "(A + B)", "(A+B", "A+B)", "((A+B))", "(A+B+C)", "a", "D", "A''''' ", "A'''''",
                     "(((((A+B)+C)+A)+B)+C)", "(A+B)'''''", "((A+B)+(A+B))''", "A`", "A'B", "'A", "A(", ")A(", "(A+B)C", "(A+B)A'", "(A'+'B)", "A\n", " A", "A ", "((A+B)+C",
                     "(A+B))", "(A,B)", "(AxB)", "AA", "A.", "(0+A)", "(", ")", "+", "(" * 4000, "A" + "'" * 3999, ")" * 4000, "+" * 4000, "(A+" * 1300, ["A"], ("A",), b"A"):
            self.refused(InvalidPlan, Plan, text)

    def test_texts_by_chance(self):
        known = {text_of(shape) for deeds in range(5) for shape in shapes(deeds)}
        chance = random.Random(3)
        texts = sorted(known)
        right = 0
        for _ in range(4000):
            text = list(chance.choice(texts))
            for _ in range(chance.randrange(1, 3)):
                at = chance.randrange(len(text) + 1)
                text[at:at + chance.randrange(2)] = chance.choice(["", *"ABC()+'"])
            text = "".join(text)
            if text in known:
                self.same(Plan(text).text, text)
                right += 1
            else:
                self.refused(InvalidPlan, Plan, text)
        self.assertGreater(right, 200)

    def test_equal(self):
        plans = [Plan(text) for text in ("A", "A'", "(A+B)", "(B+A)", "((A+B)+C)", "(A+(B+C))")]
        for at, one in enumerate(plans):
            for beside, other in enumerate(plans):
                self.same([one == other, one != other], [at == beside, at != beside])
        self.same(Plan("A'") == Plan("A'"), True)
        for value in (*STRANGE, "A", ("A",)):
            self.same([plans[0] == value, plans[0] != value, value == plans[0]], [False, True, False])
        self.cannot_be_iterated_over(plans[-1])

    def test_renamed(self):
        plan = Plan("((A'+B)+A)'")
        for letters, text in (({"A": "B", "B": "A"}, "((B'+A)+B)'"), ({"A": "C", "B": "C"}, "((C'+C)+C)'"), ({"A": "A", "B": "B"}, "((A'+B)+A)'"), ({"A": "B", "B": "C"}, "((B'+C)+B)'")):
            self.same([plan.renamed(letters).text, plan.renamed(letters) == Plan(text), plan.text], [text, True, "((A'+B)+A)'"])
        for value in (*STRANGE, {}, {"A": "B"}, {"A": "B", "B": "A", "C": "C"}, {"A": "B", "C": "A"}, {"A": "D", "B": "A"}, {"A": "a", "B": "A"}, {"A": "", "B": "A"}, {"A": "AB", "B": "A"},
                      {"A": None, "B": "A"}, {"A": ["A"], "B": "A"}, {"A": 0, "B": "A"}, [("A", "B"), ("B", "A")], {0: "A", 1: "B"}, {"A": Plan("A"), "B": "B"}):
            self.refused(InvalidOperation, plan.renamed, value)
        for book in (LESS, GUIDED):
            rows = {"A": read_row("a"), "B": read_row("0 a")}
            self.same(Plan("(A'+B)").renamed({"A": "B", "B": "A"}).run(BINOMIAL, rows), Plan("(B'+A)").run(BINOMIAL, rows))
            self.same(are_alike(book, Plan("(A+B)"), Plan("(A+C)").renamed({"A": "B", "C": "A"})), True)


class RunTest(Case):
    def test_against_a_run_made_here(self):
        chance = random.Random(9)
        outcomes = set()
        for book in (*FEW, *DRAWN):
            rows = [row for each in rows_up_to(book, 9).values() for row in each]
            for _ in range(40):
                shape = chance.choice(shapes(chance.randrange(5)))
                given = {letter: chance.choice(rows) for letter in sorted(letters_in(shape))}
                done, row = run(book, shape, given)
                if done:
                    self.same(Plan(text_of(shape)).run(book, given), row)
                else:
                    self.refused_with(Spoilt, "row", row, Plan(text_of(shape)).run, book, given)
                outcomes.add((done, deeds_in(shape)))
        self.same(len(outcomes), 9)

    def test_the_left_side_is_done_first(self):
        rows = {"A": (A, A), "B": (A, A, A)}
        for text in ("((A+A)+(B+B))", "((B+B)+(A+A))", "(A+(B+B))", "((A+A)+B)'"):
            first = "A" if text.startswith("((A") else "B"
            self.refused_with(Spoilt, "row", outcome(LESS, rows[first], ("meld", rows[first]))[0], Plan(text).run, LESS, {letter: rows[letter] for letter in "AB"})
        self.same(outcome(LESS, rows["A"], ("meld", rows["A"]))[0], ((), ("a", "a", "a")))

    def test_letters_alone(self):
        row = read_row("a 0 a")
        self.same([Plan("A").run(BINOMIAL, {"A": row}), Plan("C").run(BINOMIAL, {"C": ()})], [row, ()])
        heap = Heap(BINOMIAL, (3, 1))
        self.same(Plan("B").run_heaps(BINOMIAL, {"B": heap}) == heap, True)

    def test_great_rows(self):
        ones = (A,) * 300
        self.same(Plan("A'").run(BINOMIAL, {"A": ones}) == ((),) * 300 + (A,), True)
        self.same(Plan("((A+A)+B)'").run(BINOMIAL, {"A": ones, "B": ()}) == (A, *ones), True)
        self.same(Plan("A").run(BINOMIAL, {"A": row_of(400)}) == row_of(400), True)

    def test_rows_that_do_not_fit(self):
        plan = Plan("(A'+B)")
        for value in (*STRANGE, {}, {"A": ()}, {"A": (), "B": (), "C": ()}, {"A": (), "C": ()}, {"A": (), "B": None}, {"A": [], "B": ()}, {"A": (("a", "a"),), "B": ()}, {"A": ((),), "B": ()},
                      {"A": "a", "B": ()}, [((), ())], {"A": row_of(401), "B": ()}, {"A": (("b",),), "B": ()}, {0: (), 1: ()}, {("A",): (), "B": ()}):
            self.refused(InvalidOperation, plan.run, BINOMIAL, value)
        self.same(plan.run(BINOMIAL, {"B": A and (), "A": ()}), (A,))
        for value in STRANGE:
            if not isinstance(value, Book):
                self.refused(InvalidBook, plan.run, value, {"A": (), "B": ()})
                self.refused(InvalidBook, plan.run, value, None)

    def test_dicts_are_not_changed(self):
        rows = {"B": (A,), "A": ()}
        Plan("(A'+B)").run(BINOMIAL, rows)
        self.same(rows, {"B": (A,), "A": ()})


class HeapsTest(Case):
    def model(self, book, shape, heaps, keys):
        """What a plan comes to on heaps that the tests keep; None if a deed fails."""
        if isinstance(shape, str):
            return heaps[shape]
        found = [self.model(book, part, heaps, keys) for part in shape]
        if None in found:
            return None
        new = after_put(book, found[0], keys.pop(0)) if len(shape) == 1 else after_meld(book, *found)
        row = tuple(tuple(tree[0][-1] for tree in digit) for digit in new)
        return new if is_right(book, row) else None

    def test_heaps_beside_rows(self):
        chance = random.Random(21)
        met = set()
        for book in (*FEW, *DRAWN[:12]):
            heaps = [Heap(book)]
            for key in (4, 2, 6, 1, 3):
                try:
                    heaps.append(heaps[-1].put(key))
                except Spoilt:
                    break
            for _ in range(25):
                shape = chance.choice(shapes(chance.randrange(5)))
                given = {letter: chance.choice(heaps) for letter in sorted(letters_in(shape))}
                keys = [chance.randrange(9) for _ in range(text_of(shape).count("'"))]
                rows = {letter: given[letter].outline for letter in given}
                done, row = run(book, shape, rows)
                plan = Plan(text_of(shape))
                if done:
                    heap = plan.run_heaps(book, given, *keys)
                    self.same([heap.outline, plain_heap(heap)], [row, [list(digit) for digit in self.model(book, shape, {letter: plain_heap(given[letter]) for letter in given}, list(keys))]])
                    self.same(heap.content, tuple(sorted([*keys, *[key for sign in text_of(shape) if sign in LETTERS for key in given[sign].content]])))
                else:
                    self.refused_with(Spoilt, "row", row, plan.run_heaps, book, given, *keys)
                met.add(done)
        self.same(met, {True, False})

    def test_keys_in_the_order_of_deeds(self):
        heap = Plan("(A'+B')'").run_heaps(BINOMIAL, {"A": Heap(BINOMIAL), "B": Heap(BINOMIAL)}, 5, 7, 1)
        self.same([heap.outline, heap.content, heap.elder().content, heap.elder(many=2).content, heap.elder(many=3).content], [(A, A), (1, 5, 7), (5, 7), (5,), ()])

    def test_heaps_that_do_not_fit(self):
        plan, heap = Plan("(A'+B)"), Heap(BINOMIAL, (1, 2))
        for value in (*STRANGE, {}, {"A": heap}, {"A": heap, "B": heap, "C": heap}, {"A": heap, "B": None}, {"A": heap, "B": heap.trees}, {"A": Heap(GUIDED), "B": heap},
                      {"A": heap, "B": Heap(LESS)}, {"A": heap, "C": heap}, [heap, heap], {"A": heap, "B": heap.outline}):
            self.refused(InvalidOperation, plan.run_heaps, BINOMIAL, value, 5)
            self.refused(InvalidOperation, plan.run_heaps, BINOMIAL, value)
        same = Heap(Book.from_lines(*BINOMIAL_LINES), (3,))
        self.same(plan.run_heaps(BINOMIAL, {"A": heap, "B": same}, 5).content, (1, 2, 3, 5))
        self.refused(InvalidOperation, plan.run_heaps, GUIDED, {"A": heap, "B": heap}, 5)
        for value in STRANGE:
            if not isinstance(value, Book):
                self.refused(InvalidBook, plan.run_heaps, value, {"A": heap, "B": heap}, 5)
                self.refused(InvalidBook, plan.run_heaps, value, None, None)

    def test_keys_that_do_not_fit(self):
        plan, heaps = Plan("(A'+B)"), {"A": Heap(BINOMIAL), "B": Heap(BINOMIAL, (2,))}
        for keys in ((), (1, 2), (True,), (None,), ("1",), ((1,),), (TOO_GREAT,), (-TOO_GREAT,), ([],)):
            self.refused(InvalidOperation, plan.run_heaps, BINOMIAL, heaps, *keys)
        self.same(plan.run_heaps(BINOMIAL, heaps, GREAT).content, (2, GREAT))
        self.refused(InvalidOperation, Plan("(A+B)").run_heaps, BINOMIAL, heaps, 1)
        # The keys are looked at before any deed is done.
        self.refused(InvalidOperation, Plan("A''").run_heaps, NOTHING, {"A": Heap(NOTHING)}, 1)
        self.refused_with(Spoilt, "row", (A,), Plan("A''").run_heaps, NOTHING, {"A": Heap(NOTHING)}, 1, 2)

    def test_too_many_keys(self):
        tree = tree_of(BINOMIAL.kinds, range(4096))
        heap = Heap.of_trees(BINOMIAL, ((),) * 12 + ((tree,),))
        self.refused_with(TooMany, "limit", 5000, Plan("(A+A)").run_heaps, BINOMIAL, {"A": heap})
        self.refused_with(TooMany, "limit", 5000, Plan("((A+A)+B)'").run_heaps, BINOMIAL, {"A": heap, "B": heap}, 5)
        self.refused(EmptyHeap, Heap(BINOMIAL).take)


class ByForceTest(Case):
    def check(self, book, one, other, most):
        """Two plans against all right rows with few keys."""
        letters = tuple(sorted(letters_in(one) | letters_in(other)))
        plans = Plan(text_of(one)), Plan(text_of(other))
        try:
            found = parting_rows(book, *plans)
        except TooMany:
            return "many"
        self.same(are_alike(book, *plans), found is None)
        wanted = next((keys for keys, rows in all_rows(book, letters, most) if parted(book, one, other, rows)), None)
        if found is None:
            self.same(wanted, None)
            return "alike"
        self.same([type(found), tuple(found), is_parting(book, *plans, found), is_parting(book, *plans[::-1], found)], [dict, letters, True, True])
        self.same([book.is_right(found[letter]) for letter in letters] + [parted(book, one, other, found)], [True] * (len(letters) + 1))
        keys = sum(keys_of(book.kinds, found[letter]) for letter in letters)
        self.same(keys if keys <= most else None, wanted)
        return keys

    def test_known_pairs(self):
        by_text = {text_of(shape): shape for deeds in range(5) for shape in shapes(deeds)}
        met = []
        for book in (*[book for book in FEW if book != MIXED], *DRAWN[:8]):
            for one, other in PAIRS:
                met.append(self.check(book, by_text[one], by_text[other], 5 if "C" in one + other else 8))
        self.same([met.count("many") < 4, len(set(met)) > 5], [True, True])

    def test_pairs_by_chance(self):
        chance = random.Random(33)
        met = set()
        for book in (*[book for book in FEW if book != MIXED], *DRAWN):
            for _ in range(5):
                one, other = [chance.choice(shapes(chance.choice((1, 1, 2, 2, 3)))) for _ in range(2)]
                many = len(letters_in(one) | letters_in(other))
                met.add(self.check(book, one, other, (9, 7, 5)[many - 1]))
        self.same(["many" in met, len(met) > 4], [False, True])

    def test_mixed_kinds(self):
        by_text = {text_of(shape): shape for deeds in range(3) for shape in shapes(deeds)}
        for one, other in (("(A'+B)", "(A+B)'"), ("A''", "(A+A)"), ("(A+B)", "(A+(A+B))"), ("(A+A)'", "A'")):
            self.check(MIXED, by_text[one], by_text[other], 7)

    def test_is_parting(self):
        met = set()
        for book in (LESS, GUIDED, FULL, EVEN):
            for one, other in PAIRS:
                shape = [next(each for deeds in range(5) for each in shapes(deeds) if text_of(each) == text) for text in (one, other)]
                letters = tuple(sorted(letters_in(shape[0]) | letters_in(shape[1])))
                for _, rows in itertools.islice(all_rows(book, letters, 4), 60):
                    wanted = parted(book, *shape, rows)
                    self.same(is_parting(book, Plan(one), Plan(other), rows), wanted)
                    met.add(wanted)
        self.same(met, {True, False})


class AlikeTest(Case):
    def test_melds_do_not_depend_on_which_row_comes_first(self):
        for book in (*BOOKS[:6], *DRAWN[:6]):
            for one, other in (("(A+B)", "(B+A)"), ("((A+B)+C)", "(C+(B+A))"), ("((A'+B)+C)'", "(C+(B+A'))'")):
                self.same([are_alike(book, Plan(one), Plan(other)), parting_rows(book, Plan(one), Plan(other))], [True, None])

    def test_both_fail(self):
        # No put is ever done.
        for one, other in (("A'", "A''"), ("(A'+B)", "B'"), ("((A'+A)+A)", "A'''")):
            self.same(are_alike(NOTHING, Plan(one), Plan(other)), True)
        self.same(parting_rows(NOTHING, Plan("A'"), Plan("A")), {"A": ()})
        self.same(parting_rows(NOTHING, Plan("A'"), Plan("(A+A)")), {"A": ()})

    def test_a_plan_is_alike_a_letter_just_if_its_deeds_are_done(self):
        for book in (*FEW, *DRAWN):
            self.same([are_alike(book, Plan("A"), Plan("A")), are_alike(book, Plan("A"), Plan("B"))], [True, len(rows_up_to(book, 30)) == 1])

    def test_different_letters(self):
        rows = parting_rows(BINOMIAL, Plan("A'"), Plan("C"))
        self.same([rows, is_parting(BINOMIAL, Plan("A'"), Plan("C"), {"A": (), "C": (A,)}), is_parting(BINOMIAL, Plan("A'"), Plan("C"), {"C": (), "A": (A,)})],
                  [{"A": (), "C": ()}, False, True])

    def test_a_good_book(self):
        for book in (BINOMIAL, HYPER):
            self.same([is_good(book, "meld"), is_good(book, "put"), are_alike(book, Plan("(A+B)'"), Plan("(A'+B)"))], [True, True, True])
        self.same(are_alike(GUIDED, Plan("(A+B)'"), Plan("(A'+B)")), False)

    def test_rows_with_many_keys(self):
        plans = Plan("((A+B)+C)"), Plan("(A+(B+C))")
        rows = {"A": (A,) * 90, "B": (A,) * 90, "C": read_row("a 0 a")}
        self.same(is_parting(LESS, *plans, rows), parted(LESS, (("A", "B"), "C"), ("A", ("B", "C")), rows))
        self.same(is_parting(BINOMIAL, *plans, rows), False)

    def test_other_names(self):
        for book in (LESS, GUIDED, FULL):
            other = renamed_book(book, kinds={"a": "q"}, states={name: "x" + name for name in book.reader.states})
            for one, two in PAIRS[:6]:
                found, beside = parting_rows(book, Plan(one), Plan(two)), parting_rows(other, Plan(one), Plan(two))
                self.same(found is None, beside is None)
                if found:
                    self.same(sum(keys_of(book.kinds, row) for row in found.values()), sum(keys_of(other.kinds, row) for row in beside.values()))


class ErrorsTest(Case):
    def test_no_book(self):
        plan = Plan("A'")
        for value in STRANGE:
            if not isinstance(value, Book):
                for call, more in ((are_alike, ()), (parting_rows, ()), (is_parting, ({"A": ()},))):
                    self.refused(InvalidBook, call, value, plan, plan, *more)
                    self.refused(InvalidBook, call, value, None, None, *more)

    def test_no_plans(self):
        plan = Plan("A'")
        for value in (*STRANGE, "A'", ("A'",)):
            for call, more in ((are_alike, ()), (parting_rows, ()), (is_parting, (None,))):
                self.refused(InvalidPlan, call, BINOMIAL, value, plan, *more)
                self.refused(InvalidPlan, call, BINOMIAL, plan, value, *more)
                self.refused(InvalidPlan, call, BINOMIAL, value, value, *more)
                self.refused(InvalidPlan, call, TOO_GREAT_BOOK, plan, value, *more)

    def test_values_at_which_nothing_parts(self):
        one, other = Plan("A'"), Plan("(A+B)")
        for value in (*STRANGE, {}, {"A": ()}, {"A": (), "B": (), "C": ()}, {"A": (), "B": (("a", "a"),)}, {"A": (), "B": None}, [("A", ())], {"A": (), "C": ()}, {"A": row_of(401), "B": ()},
                      {"A": (), "B": (A,)}, {"A": (), "B": [A]}, {"A": (), "B": (A, ())}, {"A": "", "B": ""}):
            self.same(is_parting(BINOMIAL, one, other, value), False)
        self.same(is_parting(BINOMIAL, one, other, {"B": (), "A": ()}), True)

    def test_too_many_things(self):
        for call in (are_alike, parting_rows):
            self.refused_with(TooMany, "limit", 20000, call, TOO_GREAT_BOOK, Plan("(((A+B)+C)+A)"), Plan("((A'+B')+C)"))
        self.same(is_parting(TOO_GREAT_BOOK, Plan("A'"), Plan("A"), {"A": ()}), True)

    def test_nothing_is_changed(self):
        one, other = Plan("((A+B)+C)"), Plan("(A+(B+C))")
        first = parting_rows(LESS, one, other)
        first["A"] = None
        self.same([parting_rows(LESS, one, other) != first, parting_rows(LESS, one, other) == parting_rows(LESS, one, other), one.text, LESS.lines == tuple(LESS)],
                  [True, True, "((A+B)+C)", True])
