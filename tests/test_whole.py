"""[180] and what speaks over several functions: HEARTs and FACTs over drawn inputs."""

from itertools import product
from random import Random
from unittest import TestCase

from alongall.algebras import is_algebra, value
from alongall.asrounds import as_rounds
from alongall.building import flipped, made, paired
from alongall.changing import backward, renamed, widened
from alongall.combining import contrary, joining, meeting
from alongall.compiling import reader_of
from alongall.deciding import follows, means, shown
from alongall.errors import BadScope, TooMany
from alongall.filling import filled, woven
from alongall.flaws import flaw, is_flaw
from alongall.hiding import hidden
from alongall.kinds import is_of, met_in
from alongall.least import least
from alongall.lengths import lengths, powers, powers_back, repeats, sure_lengths
from alongall.levels import level, levels
from alongall.lots import lots_of
from alongall.making import turned, without
from alongall.marking import marked
from alongall.merging import merged, mergings
from alongall.papers import is_paper, paper_of
from alongall.parters import is_parter, parter
from alongall.parting import kept, mirrored, picked, relative
from alongall.placed import mirrored as mirrored_places
from alongall.placed import names_of, there
from alongall.placetables import places_parted, word_for
from alongall.placing import where
from alongall.readers import takes
from alongall.roundforms import in_sets, loose, rounds_of
from alongall.sayings import sentence_apart, so, so_at
from alongall.shorthand import without_shorts
from alongall.steps import is_road, is_rule
from alongall.ties import is_sameness, sameness, tie
from alongall.verdicts import is_verdict_in, verdict_in
from alongall.views import alike_to, least_depth, view
from alongall.ways import clash, is_way, way_of
from alongall.weaves import is_weave, length, letters_in, size
from alongall.weighing import apart, classes, some_word
from tests.formulas import free_by_hand, many_formulas
from tests.oracles import same_words
from tests.rules import rows_of_three, some_road
from tests.samples import A, ALGEBRAS, NONE, THREES, X, Y, back, many_weaves, mix, on, spots_by_hand, then
from tests.test_lengths import going_round
from tests.test_parting import closed, some_sentences
from tests.test_placed import many_placed
from tests.test_placetables import placed_with
from tests.test_readers import many_readers
from tests.test_roundforms import closed_rounds, many_rounds

XY = ("x", "y")
READERS = many_readers(700, 40, ((), ("x",), XY)) + [
    ("reader", ("x",), going_round(2), (0, 1), (1,)), ("reader", (), going_round(3), (1,), (2,)), ("reader", ("x",), going_round(4), (2, 1), (3, 5))]


def told(function, *arguments):
    """What a function tells, None for TooMany."""
    try:
        return function(*arguments)
    except TooMany:
        return None


def roads(seed, scope, deep, long, many):
    """Triples of a weave, a road, and where it leads to."""
    random = Random(seed)
    found = []
    for weave in many_weaves(seed, scope, deep, many):
        road, end = some_road(random, weave, long)
        if is_weave(scope, end) and size(scope, end) < 60 and is_road(scope, weave, end, road):
            found.append((weave, road, end))
    return found


class WordsToldByManyWeaves(TestCase):
    """What is told of a word, is told whatever weave tells it."""

    def test_rules(self):
        many = 0
        for e, f, g in zip(many_weaves(701, ("x",), 2, 12), many_weaves(702, ("x",), 2, 12), many_weaves(703, ("x",), 2, 12)):
            for pairs in rows_of_three(e, f, g).values():
                for one, other in pairs[::2]:
                    self.assertTrue(is_rule(("x",), one, other))
                    self.assertIsNone(least_depth(("x",), one, other, 3))
                    self.assertEqual(length(("x",), one), length(("x",), other))
                    if is_of("scattered", ("x",), one):
                        self.assertEqual(level(("x",), one), level(("x",), other))
                    for algebra in (ALGEBRAS[1], THREES[3], going_round(2)):
                        self.assertFalse(value(algebra, ("x",), (1, 2), one) != value(algebra, ("x",), (1, 2), other))
                    many += 1
        self.assertGreater(many, 300)

    def test_roads(self):
        found = roads(704, XY, 4, 4, 60)
        self.assertGreater(len(found), 30)
        sentences = [formula for formula in closed_rounds(705, 4, 12)]
        formulas = [formula for formula in many_formulas(706, XY, 3, 12) if told(reader_of, formula) is not None]
        placed = many_placed(707, 3, 6)
        for one, _, other in found:
            self.assertEqual(view(XY, one, 2), view(XY, other, 2))
            self.assertTrue(alike_to(XY, one, other, 3))
            self.assertIsNone(parter(XY, one, other, 2))
            self.assertIsNone(sentence_apart(XY, one, other, 3))
            for reader in READERS:
                if reader[1] == XY:
                    self.assertIs(takes(reader, one), takes(reader, other))
                    self.assertEqual(repeats(reader, one), repeats(reader, other))
                    self.assertEqual(powers(reader, one), powers(reader, other))
                    self.assertEqual(powers_back(reader, one), powers_back(reader, other))
            for sentence in sentences:
                self.assertIs(so(XY, sentence, one), so(XY, sentence, other))
            for formula in formulas:
                self.assertIs(means(formula, XY, one), means(formula, XY, other))
            for formula in placed:
                first, second = told(marked, XY, formula, one, "z"), told(marked, XY, formula, other, "z")
                if first is not None and second is not None:
                    self.assertTrue(alike_to(("x", "y", "z"), first, second, 2))

    def test_put_in_and_left_out(self):
        fills = (then(X, A), on(Y), NONE, mix(A, X))
        for one, road, other in roads(708, XY, 3, 3, 40):
            first, second = told(woven, XY, one, XY, fills), told(woven, XY, other, XY, fills)
            if first is not None and second is not None:
                self.assertTrue(alike_to(XY, first, second, 3))
            for name in XY:
                self.assertTrue(alike_to(XY, kept(XY, one, name), kept(XY, other, name), 3))
                self.assertTrue(alike_to(XY, without(XY, one, (name,)), without(XY, other, (name,)), 3))
            self.assertTrue(alike_to(XY, turned(XY, one), turned(XY, other), 3))
            self.assertTrue(is_road(XY, one, other, road))

    def test_turned_and_put_in(self):
        fills = (then(X, A), on(Y), back(X), mix(A, X))
        for weave in many_weaves(709, XY, 3, 30):
            first = told(woven, XY, turned(XY, weave), XY, tuple(turned(XY, fill) for fill in fills))
            second = told(woven, XY, weave, XY, fills)
            self.assertEqual(first, None if second is None else turned(XY, second))
            self.assertEqual(kept(XY, turned(XY, weave), "x"), turned(XY, kept(XY, weave, "x")))
            self.assertEqual(level(XY, turned(XY, weave)), level(XY, weave))


class SentencesAreAlgebras(TestCase):
    """[43], [180]: what two formulas mean, by their readers."""

    def test_same_or_not(self):
        random = Random(710)
        formulas = [formula for formula in many_formulas(711, ("x",), 3, 40, False) if told(reader_of, formula) is not None]
        seen = set()
        for _ in range(150):
            one, other = random.choice(formulas), random.choice(formulas)
            scope = tuple(sorted(free_by_hand(one) | free_by_hand(other)))
            first, second = widened(reader_of(one), scope), widened(reader_of(other), scope)
            found = told(sameness, one, other)
            if found is None:
                continue
            same = first == second
            seen.add(same)
            self.assertEqual(found[0], "same" if same else "parted")
            self.assertEqual(same, same_words(first, second))
            self.assertEqual(same, apart(first, second) is None)
            self.assertEqual(same, tie(first, second) is not None)
            self.assertIs(is_sameness(one, other, found), True)
            forth, again = told(follows, one, other), told(follows, other, one)
            try:
                self.assertEqual(same, follows(one, other) is None and follows(other, one) is None)
            except TooMany:
                pass
            for weave in (forth, again):
                if weave is not None:
                    self.assertNotEqual(takes(first, weave), takes(second, weave))
        self.assertEqual(seen, {True, False})

    def test_papers_and_verdicts(self):
        for sentence in some_sentences(712, XY, 3, 60):
            reader = told(reader_of, sentence)
            if reader is None:
                continue
            word, paper = paper_of(reader)
            verdict = verdict_in(sentence, "any")
            self.assertEqual(word == "none", verdict[0] == "never")
            self.assertTrue(is_paper(reader, (word, paper)))
            if word == "none":
                self.assertTrue(is_verdict_in(sentence, "any", ("never", paper)))
                self.assertIsNone(some_word(reader))
            else:
                self.assertTrue(means(sentence, (), paper))
            never = paper_of(contrary(reader))
            self.assertEqual(never[0] == "none", verdict[0] == "always")
            rows, mixes = levels(reader)
            self.assertEqual(rows[-1], met_in(reader, "scattered"))
            self.assertEqual(mixes[-1], tuple(range(reader[2][1])))
            some, sure = lengths(reader), sure_lengths(reader)
            finite = verdict_in(sentence, "finite")[0]
            self.assertEqual(finite == "never", not any(some[0] + some[1]))
            self.assertEqual(finite == "always", all(sure[0] + sure[1]))

    def test_without_shorts(self):
        for formula in many_formulas(713, XY, 3, 60):
            plain = told(without_shorts, formula)
            if plain is None:
                continue
            first, second = told(reader_of, formula), told(reader_of, plain)
            if first is not None and second is not None:
                self.assertEqual(first, second)
                self.assertEqual(sameness(plain, plain)[0], "same")

    def test_hidden_and_shown(self):
        for formula in many_formulas(714, XY, 3, 40):
            some = ("some", "x", formula)
            reader, inner = told(reader_of, some), told(reader_of, formula)
            if reader is None or "x" not in free_by_hand(formula):
                continue
            self.assertEqual(reader, hidden(inner, "x"))
            for weave in many_weaves(715, reader[1], 3, 3):
                found = told(shown, some, reader[1], weave)
                if found is not None:
                    self.assertTrue(takes(inner, found[0]))
                    self.assertTrue(takes(reader, weave))

    def test_mirrored_and_relative(self):
        for sentence in some_sentences(716, XY, 3, 40):
            reader = told(reader_of, sentence)
            if reader is None:
                continue
            self.assertEqual(reader_of(mirrored(sentence)), backward(reader))
            within = told(relative, sentence, "p")
            found = None if within is None else told(reader_of, within)
            if found is not None and found[1] == ("p",):
                self.assertEqual(found, least(picked(reader, "p")))
                self.assertEqual(told(reader_of, mirrored(within)), backward(found))


class PlacesAndRounds(TestCase):
    """[61], [62], [65], [56]: one formula told in three ways."""

    def test_where_and_marked(self):
        many = 0
        for formula in many_placed(720, 2, 40) + placed_with(721, 1, 20):
            formula = formula if set(names_of(formula)) <= {"x", "y"} else ("until", formula[1], ("mark", "y")) if len(formula) > 2 else ("mark", "x")
            if not set(names_of(formula)) <= {"x", "y"}:
                continue
            rounds = as_rounds(formula, "z")
            try:
                sets = in_sets(rounds)
                reader_of(sets)
            except (BadScope, TooMany):
                continue
            scope = names_of(formula)
            self.assertEqual(loose(rounds), ("z",))
            for weave in many_weaves(722, scope, 3, 4) + [on(A), back(A), mix(A)]:
                one, other = told(where, sets, "z", scope, weave), told(marked, scope, formula, weave, "z")
                if one is not None and other is not None:
                    wide = tuple(sorted(scope + ("z",)))
                    self.assertTrue(alike_to(wide, one, other, 3), (formula, weave))
                    many += 1
        self.assertGreater(many, 60)

    def test_nowhere(self):
        held = set()
        for formula in placed_with(723, 1, 80, "x"):
            try:
                sets = ("some", "z", ("both", ("one", "z"), in_sets(as_rounds(formula, "z"))))
                reader = reader_of(sets)
            except (BadScope, TooMany):
                continue
            found = word_for(formula)
            self.assertEqual(found is None, paper_of(reader)[0] == "none", formula)
            held.add(found is None)
            if found is not None and reader[1] == names_of(formula):
                self.assertTrue(takes(reader, found[0]))
        self.assertIn(False, held)

    def test_parted(self):
        formulas = []
        for formula in placed_with(724, 1, 60, "x"):
            try:
                sets = in_sets(as_rounds(formula, "z"))
                if reader_of(("both", ("one", "z"), sets))[1] == ("x", "z"):
                    formulas.append((formula, ("both", ("one", "z"), sets)))
            except (BadScope, TooMany):
                pass
        random = Random(725)
        seen = set()
        for _ in range(60):
            (one, first), (other, second) = random.choice(formulas), random.choice(formulas)
            same = reader_of(first) == reader_of(second)
            self.assertEqual(places_parted(one, other) is None, same, (one, other))
            seen.add(same)
        self.assertEqual(seen, {True, False})

    def test_each_way_of_asking(self):
        for formula in many_placed(726, 3, 30):
            rounds = as_rounds(formula, "p")
            if rounds_of(rounds) > 5:
                continue
            for weave in many_weaves(727, XY, 3, 3):
                wide = told(marked, XY, formula, weave, "z")
                for spot in spots_by_hand(weave, 2)[:6]:
                    holds = there(XY, formula, weave, spot)
                    self.assertIs(so_at(XY, rounds, weave, spot), holds)
                if wide is not None:
                    bearing = ("bears", "p", "z")
                    every = ("all", "p", ("either", ("both", rounds, bearing), ("both", ("not", rounds), ("not", bearing))))
                    if names_fit(every) and rounds_of(every) <= 6:
                        self.assertTrue(so(("x", "y", "z"), every, wide), (formula, weave))

    def test_mirrored(self):
        for formula in placed_with(728, 2, 20):
            other = mirrored_places(formula)
            first, second = told(word_for, formula), told(word_for, other)
            if first is not None and second is not None:
                self.assertTrue(there(names_of(formula), formula, *first))
                self.assertTrue(there(names_of(formula), other, *second))
            elif first is None:
                self.assertIsNone(second)

    def test_sentences_in_sets(self):
        many = 0
        for formula in closed_rounds(729, 4, 60, ("p", "q"), ("x",)):
            try:
                sets = in_sets(formula)
                reader = reader_of(sets)
            except (BadScope, TooMany):
                continue
            for one, other in product(many_weaves(730, reader[1], 3, 5), repeat=2):
                self.assertIs(takes(reader, one), so(reader[1], formula, one))
                if alike_to(reader[1], one, other, rounds_of(formula)):
                    self.assertIs(takes(reader, one), takes(reader, other))
                many += 1
        self.assertGreater(many, 200)


def names_fit(formula):
    """Whether no name of it stands for a place and for a mark."""
    places, marks = set(), set()

    def go(part):
        if part[0] == "bears":
            places.add(part[1])
            marks.add(part[2])
        elif part[0] in ("before", "same"):
            places.update(part[1:])
        elif part[0] in ("some", "all"):
            places.add(part[1])
            go(part[2])
        else:
            for inner in part[1:]:
                go(inner)

    go(formula)
    return not places & marks


class AlgebrasFromAlgebras(TestCase):
    """[12], [13], [14], [16], [33]: what is made of algebras is one, and where ways lead."""

    def test_no_flaws(self):
        for reader in READERS:
            _, scope, algebra, starts, _ = reader
            small, line = made(algebra, starts)
            for table in [small, flipped(algebra), least(reader)[2], merged(algebra, mergings(algebra)[-1]), contrary(reader)[2]]:
                self.assertTrue(is_algebra(table))
                self.assertIsNone(flaw(table))
            both = told(paired, algebra, ALGEBRAS[0], tuple(zip(starts, (1,) * len(starts))))
            if both is not None:
                self.assertIsNone(flaw(both[0]))
                self.assertTrue(is_way(both[0], algebra, tuple(a for a, _ in both[1])))
                self.assertTrue(is_way(both[0], ALGEBRAS[0], tuple(b for _, b in both[1])))
            self.assertTrue(is_way(small, algebra, line))

    def test_lots_are_algebras(self):
        for reader in READERS[:20]:
            found = told(lots_of, reader[2], tuple(sorted({(start,) for start in reader[3]} | {tuple(sorted(set(reader[3])))}))[:8])
            if found is not None and len(found[0]) <= 8:
                lots, ways, mixes = found
                self.assertIsNone(flaw(("algebra", len(lots)) + ways + (mixes,)))

    def test_ways_to_least_readers(self):
        # A least reader is what all readers of its words go over to.
        for reader in READERS:
            _, scope, algebra, starts, taken = reader
            small, line = made(algebra, starts)
            goal = least(reader)
            given = tuple((line.index(start), image) for start, image in zip(starts, goal[3]))
            way = way_of(small, goal[2], given)
            self.assertIsNotNone(way)
            self.assertEqual(tuple(sorted({way[line.index(a)] for a in taken if a in line})), goal[4])
            found = tie(reader, goal)
            self.assertEqual({(line[a], b) for a, b in enumerate(way)}, set(found))

    def test_clashes_are_words_apart(self):
        random = Random(731)
        clashes = 0
        for _ in range(60):
            one, other = random.choice(THREES + ALGEBRAS[:3]), random.choice(THREES + ALGEBRAS[:3])
            given = tuple((a, random.randrange(other[1])) for a in range(one[1]))
            pair = clash(one, other, given)
            self.assertEqual(pair is None, way_of(one, other, given) is not None)
            if pair is not None:
                # Words of one value cannot be told apart by readers of one.
                scope = ("x", "y", "z")
                starts = tuple(a for a, _ in given) + (0,) * (8 - len(given))
                for a in range(one[1]):
                    reader = ("reader", scope, one, starts, (a,))
                    self.assertIs(takes(reader, pair[0]), takes(reader, pair[1]))
                self.assertFalse(is_flaw(one, pair))
                clashes += 1
        self.assertGreater(clashes, 10)

    def test_filled_and_renamed(self):
        for reader in READERS:
            scope = reader[1]
            letters = tuple(weave for _, weave in zip(range(1 << len(scope)), letters_of(scope)))
            self.assertEqual(filled(reader, scope, letters), reader)
            if scope == ("x",):
                self.assertEqual(least(filled(reader, ("a",), (A, X))), renamed(reader, ("a",)))
                self.assertEqual(least(filled(reader, XY, (A, X, A, X))), widened(reader, XY))
                self.assertEqual(least(filled(reader, (), (A,)))[1], ())
                # Words with no places where x is borne: those of the places without it.
                self.assertEqual(least(picked(filled(reader, (), (A,)), "x"))[1], ("x",))

    def test_meeting_and_papers(self):
        for one, other in product([reader for reader in READERS if reader[1] == ("x",)][:12], repeat=2):
            both, some = told(meeting, one, other), told(joining, one, other)
            if both is None or some is None:
                continue
            first, second = paper_of(both), paper_of(some)
            if first[0] == "some":
                self.assertTrue(takes(one, first[1]) and takes(other, first[1]))
            if second[0] == "none":
                self.assertEqual((paper_of(one)[0], paper_of(other)[0]), ("none", "none"))
            if paper_of(one)[0] == "some":
                self.assertEqual(second[0], "some")
            for element, weave in classes(both):
                self.assertIs(takes(both, weave), takes(one, weave) and takes(other, weave))
                self.assertIn(element, met_in(both, "any"))


def letters_of(scope):
    """The weaves of the letters of a scope, in order."""
    return tuple(("letter", tuple(name for at, name in enumerate(scope) if number >> at & 1)) for number in range(1 << len(scope)))


class RoundsAndPlans(TestCase):
    """[51], [52], [55]: views, plans and sentences say the same."""

    def test_three_ways_of_parting(self):
        for scope in ((), ("x",), XY):
            for one, other in product(many_weaves(732, scope, 4, 8), repeat=2):
                for depth in range(3):
                    alike = alike_to(scope, one, other, depth)
                    plan, sentence = parter(scope, one, other, depth), sentence_apart(scope, one, other, depth)
                    self.assertEqual(plan is None, alike)
                    self.assertEqual(sentence is None, alike)
                    self.assertEqual(view(scope, one, depth) == view(scope, other, depth), alike)
                    if not alike:
                        self.assertTrue(is_parter(scope, one, other, depth, plan))
                        self.assertNotEqual(so(scope, sentence, one), so(scope, sentence, other))
                        self.assertFalse(alike_to(scope, one, other, depth + 1))

    def test_letters(self):
        for weave in many_weaves(733, XY, 4, 30):
            self.assertEqual({c for _, c, _ in view(XY, weave, 1)}, set(letters_in(XY, weave)))
            self.assertEqual(view(XY, weave, 1) == (), length(XY, weave) == 0)

    def test_free_names_of_drawn_ones(self):
        for formula in many_rounds(734, 4, 40):
            shut = formula
            for name in loose(formula):
                shut = ("some", name, shut)
            self.assertEqual(loose(shut), ())
            self.assertEqual(rounds_of(shut) <= rounds_of(formula) + len(loose(formula)), True)
        self.assertEqual(closed(("one", "x")), ("all", "x", ("one", "x")))
