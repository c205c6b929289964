"""[170]: the desk."""

from random import Random
from unittest import TestCase

from alongall.deciding import follows, means, shown
from alongall.desk import Desk
from alongall.errors import TooMany
from alongall.making import without
from alongall.placing import where
from alongall.steps import is_road
from alongall.texts import formula_of, text_of
from alongall.verdicts import verdict_in
from alongall.weavetexts import weave_of, weave_text
from tests.formulas import free_by_hand
from tests.odd import odd_values
from tests.samples import A, X, on, then

KINDS = ("finite", "well", "backwell", "scattered", "any")


def desk_with(*rows):
    """A desk to which rows have been said, all of them kept."""
    desk = Desk()
    for row in rows:
        assert desk.say(row) == "kept", row
    return desk


def usual():
    return desk_with(
        "let f some y: (one y & x < y)", "let g all x: well x", "let h some x: one x", "let m next x y",
        "word w - on([])", "word v x,y ([x] mix([],[y]))", "word u - back([])", "word f - []")


class Answers(TestCase):
    def check(self, desk, *pairs):
        for row, answer in pairs:
            self.assertEqual(desk.say(row), answer, row)

    def test_example_by_hand(self):
        self.check(
            Desk(), ("let f some y: (one y & x < y)", "kept"), ("word w - on([])", "kept"), ("ask f w", "lacking x"),
            ("mark f x w v", "kept"), ("told v", "word v x ([x] on([x]))"), ("verdict f any", "open"), ("let f all x: well x", "kept"),
            ("verdict f well", "always"), ("undo", "undone"), ("undo", "undone"), ("told v", "unknown v"), ("let g x in all", "wrong 8"))

    def test_each_row(self):
        desk = usual()
        self.check(
            desk, ("ask g w", "yes"), ("ask g u", "no"), ("ask m v", "no"), ("ask h w", "yes"), ("ask f v", "yes"), ("ask f w", "lacking x"),
            ("ask m w", "lacking x"), ("verdict g any", "both"), ("verdict g well", "always"), ("verdict g backwell", "both"),
            ("verdict h finite", "both"), ("text f", "some y: (one y & x < y)"), ("text g", "all x: well x"), ("told w", "word w - on([])"),
            ("told v", "word v x,y ([x] mix([],[y]))"), ("told f", "word f - []"), ("follows g h", "no"), ("follows g g", "yes"),
            ("follows h h", "yes"), ("mark f x w k", "kept"), ("told k", "word k x ([x] on([x]))"), ("mark m x v k", "kept"),
            ("show h w s", "kept"), ("show g w s", "none"), ("show g u s", "kept"), ("let n all x: (!one x | some y: next x y)", "kept"),
            ("show n u s", "kept"), ("follows h n", "no"), ("let k !x in x", "kept"), ("follows k h", "yes"))

    def test_what(self):
        desk = usual()
        before = desk.kept()
        rows = [
            "", " ", "what", "Let f x in y", "let", "let ", "let f", "let  f x in y", " let f x in y", "let F x in y", "let all x in y",
            "let abcdefghi x in y", "let f1 x in y", "word", "word w", "word w -", "word w x", "word  w - []", "word w  []",
            "word w y,x []", "word w x,x []", "word w a,b,c,d []", "word w x, []", "word w ,x []", "word w all []", "word all - []", "word w -x []",
            "word w -,x []", "word w () []", "word w X []", "ask", "ask f", "ask f w ", "ask f w v", "ask  f w", "ask f  w", " ask f w", "ask f all",
            "ask F w", "mark f x w", "mark f x w v u", "mark f x w all", "mark f one w v", "mark all x w v", "mark f x w v ", "mark f x  w v",
            "show f w", "show f w v u", "show f w some", "show f w 1", "verdict f", "verdict f Any", "verdict f any ", "verdict f", "verdict f all",
            "verdict f any any", "verdict all any", "verdict  f any", "follows f", "follows f g h", "follows f all", "follows f g ", "text", "text f g",
            "text f ", "text all", "told", "told w v", "told w ", "told not", "undo ", " undo", "undo undo", "undo w", "Undo", "kept", "kept ",
            "let\tf x in y", "ask f\tw", "undo\n", "ask f w\n", "verdict f any\n", "say undo", "letf x in y", "word w x,y",
        ]
        for row in rows + odd_values() + [["undo"], ("undo",), b"undo", 0]:
            self.assertEqual(desk.say(row), "what", row)
        self.assertEqual(desk.kept(), before)
        self.check(desk, ("undo", "undone"), ("told f", "unknown f"))

    def test_texts_to_the_end_of_the_row(self):
        desk = Desk()
        self.check(
            desk, ("let f ", "wrong 0"), ("let f  x in y", "wrong 0"), ("let f x in y ", "wrong 6"), ("let f x in", "wrong 4"),
            ("let f x  in y", "wrong 2"), ("word w - ", "wrong 0"), ("word w x  []", "wrong 0"), ("word w x [] ", "wrong 2"),
            ("word w x [y]", "wrong 1"), ("word w x ([] [x])", "kept"), ("let f (x in y & y < x)", "kept"), ("let f x in y\n", "wrong 6"),
            ("word w - mix([x])", "wrong 5"), ("let f !", "wrong 1"), ("word w - on(", "wrong 3"), ("let let x in y", "kept"),
            ("word word - []", "kept"), ("text let", "x in y"), ("told word", "word word - []"), ("word undo - none", "kept"),
            ("told undo", "word undo - none"), ("told w", "word w x ([] [x])"))

    def test_unfit(self):
        self.check(
            Desk(), ("let f ((one a & one b) & (one c & one d))", "unfit"), ("word w x mix([x],[])", "unfit"), ("word w x mix([],[])", "unfit"),
            ("word w x on(mix([x],[x]))", "unfit"), ("text f", "unknown f"), ("told w", "unknown w"), ("undo", "nothing"))

    def test_unknown(self):
        desk = usual()
        self.check(
            desk, ("ask w w", "unknown w"), ("ask f g", "unknown g"), ("ask q z", "unknown q"), ("ask f z", "unknown z"), ("mark q x z k", "unknown q"),
            ("mark f x z k", "unknown z"), ("mark f q w k", "unbound"), ("show q z k", "unknown q"), ("show f z k", "unknown z"),
            ("verdict q any", "unknown q"), ("verdict w any", "unknown w"), ("follows q z", "unknown q"), ("follows f z", "unknown z"),
            ("follows w g", "unknown w"), ("text w", "unknown w"), ("told g", "unknown g"), ("told q", "unknown q"))

    def test_open_unbound_lacking_broad_many(self):
        desk = desk_with(
            "let e (one x | one y)", "let c c in d", "let s some x: some y: (one x | one y)", "let q some x: one y",
            "let z (next x y & one z)", "word w - on([])", "word x x on([x])", "word big - on(" + big_text() + ")", "word xy x,y []",
            "let end all y: (!one y | (same x y | y < x))", "word deep - " + "on(" * 59 + "[]" + ")" * 59, "let o some x: one x")
        self.check(
            desk, ("verdict e any", "open"), ("verdict q any", "open"), ("verdict s any", "many"), ("show e w k", "unbound"), ("show c w k", "unbound"),
            ("show q w k", "unbound"), ("mark e z w k", "unbound"), ("mark o x w k", "unbound"), ("mark q x w k", "unbound"), ("ask e w", "lacking x"),
            ("ask e x", "lacking y"), ("ask e xy", "many"), ("ask c w", "lacking c"), ("mark e x w k", "lacking y"), ("mark e y w k", "lacking x"),
            ("mark e y x k", "many"), ("show s w k", "many"), ("follows e c", "broad"), ("follows z c", "broad"), ("follows e z", "many"),
            ("follows z z", "many"), ("show o deep k", "many"), ("show o big k", "many"),
            ("told k", "unknown k"), ("undo", "undone"), ("text o", "unknown o"))

    def test_which_comes_first(self):
        desk = desk_with("let e (one x | one y)", "word w - []", "let c c in d", "let big some z: (next x y & one z)")
        self.check(
            desk, ("ask e zz", "unknown zz"), ("ask E zz", "what"), ("verdict e every", "what"), ("verdict e any", "open"), ("verdict zz any", "unknown zz"),
            ("mark e all w k", "what"), ("mark e q w k", "unbound"), ("show c zz k", "unknown zz"), ("show c w k", "unbound"),
            ("follows big c", "broad"), ("ask big w", "lacking x"), ("verdict big any", "open"), ("let all x in", "what"), ("let e x in", "wrong 4"))


class Kept(TestCase):
    def test_as_the_functions_tell(self):
        desk = usual()
        formulas, words = desk.kept()
        self.assertEqual(list(formulas), sorted(formulas))
        self.assertEqual(list(words), sorted(words))
        self.assertEqual(sorted(formulas), ["f", "g", "h", "m"])
        self.assertEqual(sorted(words), ["f", "u", "v", "w"])
        for f, formula in formulas.items():
            self.assertEqual(desk.say("text " + f), text_of(formula))
            for w, (scope, weave) in words.items():
                if free_by_hand(formula) <= set(scope):
                    self.assertEqual(desk.say("ask {} {}".format(f, w)), "yes" if means(formula, scope, weave) else "no")
            if not free_by_hand(formula):
                for kind in KINDS:
                    self.assertEqual(desk.say("verdict {} {}".format(f, kind)), verdict_in(formula, kind)[0])
            for g, other in formulas.items():
                try:
                    right = "yes" if follows(formula, other) is None else "no"
                except TooMany:
                    right = "many"
                self.assertEqual(desk.say("follows {} {}".format(f, g)), right)
        for w, (scope, weave) in words.items():
            self.assertEqual(desk.say("told " + w), "word {} {} {}".format(w, ",".join(scope) or "-", weave_text(scope, weave)))
        self.assertEqual(desk.kept(), (formulas, words))

    def test_ascending_by_name(self):
        desk = Desk()
        names = ["b", "zz", "a", "ab", "c", "aa"]
        for name in names:
            desk.say("let {} one {}".format(name, name))
            desk.say("word {} {} [{}]".format(name, name, name))
        formulas, words = desk.kept()
        self.assertEqual(list(formulas), sorted(names))
        self.assertEqual(list(words), sorted(names))
        self.assertEqual(formulas["ab"], ("one", "ab"))
        self.assertEqual(words["zz"], (("zz",), ("letter", ("zz",))))

    def test_may_be_changed(self):
        desk = usual()
        formulas, words = desk.kept()
        formulas.clear()
        words["w"] = None
        self.assertEqual(sorted(desk.kept()[0]), ["f", "g", "h", "m"])
        self.assertEqual(desk.kept()[1]["w"], ((), on(A)))
        self.assertEqual(desk.say("told w"), "word w - on([])")

    def test_desks_are_apart(self):
        one, other = Desk(), Desk()
        self.assertEqual(one.say("let f one x"), "kept")
        self.assertEqual(other.say("text f"), "unknown f")
        self.assertEqual(other.kept(), ({}, {}))
        self.assertEqual(other.say("undo"), "nothing")
        self.assertEqual(one.kept()[0], {"f": ("one", "x")})

    def test_marks_and_shown_words(self):
        desk = usual()
        self.assertEqual(desk.say("mark f x w k"), "kept")
        formula = formula_of("some y: (one y & x < y)")
        self.assertEqual(desk.kept()[1]["k"], (("x",), where(formula, "x", (), on(A))))
        self.assertEqual(desk.say("mark m y v w"), "kept")
        self.assertEqual(desk.kept()[1]["w"], (("x", "y"), where(("next", "x", "y"), "y", ("x", "y"), weave_of(("x", "y"), "([x] mix([],[y]))"))))
        desk.say("let p some x: (x in y & one x)")
        self.assertEqual(desk.say("show p v k"), "kept")
        scope, weave = desk.kept()[1]["k"]
        self.assertEqual(scope, ("x", "y"))
        part = formula_of("(x in y & one x)")
        self.assertTrue(means(part, scope, weave))
        bare = without(scope, weave, ("x",))
        told = shown(formula_of("some x: (x in y & one x)"), ("x", "y"), weave_of(("x", "y"), "([x] mix([],[y]))"))
        self.assertEqual(weave, told[0])
        self.assertTrue(is_road(("y",), bare, weave_of(("y",), "([] mix([],[y]))"), told[1]))
        desk.say("let p all x: finite x")
        self.assertEqual(desk.say("show p w k"), "none" if shown(formula_of("all x: finite x"), (), on(A)) is None else "kept")
        self.assertEqual(desk.say("show p f k"), "none")

    def test_rows_told_are_rows(self):
        desk = usual()
        desk.say("mark f x w k")
        for name in list(desk.kept()[1]):
            row = desk.say("told " + name)
            other = Desk()
            self.assertEqual(other.say(row), "kept")
            self.assertEqual(other.kept()[1][name], desk.kept()[1][name])
            self.assertEqual(other.say("told " + name), row)


class Undo(TestCase):
    def test_let_over_let(self):
        desk = desk_with("let f one x", "let f bare x", "word f - []")
        self.assertEqual(desk.say("undo"), "undone")
        self.assertEqual(desk.kept(), ({"f": ("bare", "x")}, {}))
        self.assertEqual(desk.say("undo"), "undone")
        self.assertEqual(desk.kept(), ({"f": ("one", "x")}, {}))
        self.assertEqual(desk.say("let f well x"), "kept")
        self.assertEqual(desk.say("undo"), "undone")
        self.assertEqual(desk.kept(), ({"f": ("one", "x")}, {}))
        self.assertEqual(desk.say("undo"), "undone")
        self.assertEqual(desk.kept(), ({}, {}))
        self.assertEqual([desk.say("undo"), desk.say("undo")], ["nothing", "nothing"])

    def test_other_answers_are_not_taken_back(self):
        desk = desk_with("let h some x: one x", "word w - on([])")
        for row in ("ask h w", "text h", "told w", "verdict h any", "follows h h", "let q x in", "word q - mix(none,[])", "what", "ask q w"):
            desk.say(row)
        self.assertEqual(desk.say("undo"), "undone")
        self.assertEqual(desk.kept(), ({"h": ("some", "x", ("one", "x"))}, {}))

    def test_mark_and_show(self):
        desk = desk_with("let f some y: (one y & x < y)", "let h some x: one x", "word w - on([])")
        before = desk.kept()
        for row in ("mark f x w w", "show h w w", "show h w k", "mark f x w k"):
            self.assertEqual(desk.say(row), "kept")
            self.assertNotEqual(desk.kept(), before)
            self.assertEqual(desk.say("undo"), "undone")
            self.assertEqual(desk.kept(), before)
        self.assertEqual(desk.say("mark f x w w"), "kept")
        self.assertEqual(desk.kept()[1]["w"], (("x",), then(X, on(X))))

    def test_the_same_again(self):
        desk = desk_with("let f one x", "let f one x")
        self.assertEqual(desk.say("undo"), "undone")
        self.assertEqual(desk.kept()[0], {"f": ("one", "x")})
        self.assertEqual(desk.say("undo"), "undone")
        self.assertEqual(desk.kept()[0], {})

    def test_whole_sessions(self):
        # HEART: undone again and again, the desk is as it was.
        random = Random(180)
        rows = [
            "let f some y: (one y & x < y)", "let g all x: well x", "let f bare x", "let g some x: one x", "word w - on([])", "word w x ([x] [])",
            "word v x,y mix([],[x],[y])", "word v - back([])", "mark f x w v", "mark f x v w", "show g w v", "show g v k", "ask f w", "ask g v",
            "told w", "text g", "verdict g any", "follows f g", "let g x in", "word w y [x]", "nothing", "mark g x w v", "told k", "let f !!one x",
        ]
        for _ in range(12):
            desk, past = Desk(), []
            for _ in range(30):
                row = random.choice(rows + ["undo"] * 6)
                before = desk.kept()
                answer = desk.say(row)
                if row == "undo":
                    if past:
                        self.assertEqual(answer, "undone")
                        self.assertEqual(desk.kept(), past.pop())
                    else:
                        self.assertEqual(answer, "nothing")
                elif answer == "kept":
                    past.append(before)
                else:
                    self.assertEqual(desk.kept(), before)
            while past:
                self.assertEqual(desk.say("undo"), "undone")
                self.assertEqual(desk.kept(), past.pop())
            self.assertEqual(desk.say("undo"), "nothing")
            self.assertEqual(desk.kept(), ({}, {}))

    def test_by_name(self):
        desk = Desk()
        self.assertEqual(desk.say(row="let f one x"), "kept")


def big_text():
    """The text of a weave of 255 nodes."""
    text = "[]"
    for _ in range(7):
        text = "(" + text + " " + text + ")"
    return text
