"""[41]: texts of weaves."""

from random import Random
from unittest import TestCase

from alongall.errors import BadScope, BadText, BadWeave
from alongall.weavetexts import weave_of, weave_text
from tests.beginnings import weave_length
from tests.odd import odd_values
from tests.samples import A, NONE, X, Y, back, bush, letters_by_hand, many_weaves, mix, on, then
from tests.test_making import BAD_SCOPES, BAD_WEAVES, deep

XY = ("x", "y")
BOTH = ("letter", XY)
SCOPES = ((), ("x",), XY, ("a", "ab", "abc"), ("in", "on", "onx"), ("mix", "x", "xx"))
PAIRS = (
    (NONE, "none"), (A, "[]"), (X, "[x]"), (BOTH, "[x,y]"), (("then", A, X), "([] [x])"), (then(A, X, Y), "([] ([x] [y]))"),
    (("then", ("then", A, X), Y), "(([] [x]) [y])"), (on(A), "on([])"), (back(BOTH), "back([x,y])"), (mix(A), "mix([])"),
    (mix(A, X), "mix([],[x])"), (mix(A, X, BOTH, NONE), "mix([],[x],[x,y],none)"), (mix(mix(A), on(X)), "mix(mix([]),on([x]))"),
    (on(back(mix(then(A, NONE)))), "on(back(mix(([] none))))"), (mix(NONE, back(NONE), on(NONE)), "mix(back(none),none,on(none))"),
)


class WeaveTexts(TestCase):
    def at(self, scope, text):
        """What BadText tells of a text, None if it is a text."""
        try:
            weave_of(scope, text)
        except BadText as wrong:
            return wrong.at
        except BadWeave:
            pass
        return None

    def check(self, scope, text, at):
        self.assertEqual(self.at(scope, text), at, (scope, text[:80]))
        self.assertEqual(weave_length(scope, text), at, (scope, text[:80]))

    def test_by_hand(self):
        for weave, text in PAIRS:
            self.assertEqual(weave_text(XY, weave), text)
            self.assertEqual(weave_of(XY, text), weave)

    def test_there_and_back(self):
        for scope in SCOPES:
            for weave in many_weaves(160, scope, 5, 60):
                self.assertEqual(weave_of(scope, weave_text(scope, weave)), weave)
            for letter in letters_by_hand(scope):
                self.assertEqual(weave_of(scope, "[" + ",".join(letter) + "]"), ("letter", letter))

    def test_no_other_text(self):
        for _, text in PAIRS:
            for at in range(len(text) + 1):
                for other in (text[:at] + " " + text[at:], text[:at] + text[at + 1:], text[:at] + "x" + text[at:], text[:at] + "," + text[at:]):
                    try:
                        self.assertEqual(weave_text(XY, weave_of(XY, other)), other)
                    except BadText as wrong:
                        self.assertEqual(wrong.at, weave_length(XY, other))
                    except BadWeave:
                        self.assertIsNone(weave_length(XY, other))

    def test_lengths_by_hand(self):
        for text, at in (
            ("", 0), (" ", 0), ("x", 0), ("n", 1), ("nona", 3), ("none", None), ("none ", 4), ("nonee", 4), (" none", 0), ("None", 0),
            ("[", 1), ("[]", None), ("[] ", 2), ("[ ]", 1), ("[x", 2), ("[x]", None), ("[x]]", 3), ("[x,", 3), ("[x,]", 3), ("[x,y]", None),
            ("[x, y]", 3), ("[y,x]", 2), ("[y,", 2), ("[x,x]", 3), ("[x,y,", 4), ("[x,y,z]", 4), ("[z]", 1), ("[xy]", 2), ("[,x]", 1), ("[X]", 1),
            ("(", 1), ("([]", 3), ("([] ", 4), ("([] [])", None), ("([]  [])", 4), ("([],[])", 3), ("([] [] [])", 6), ("([][])", 3), ("()", 1),
            ("(none none)", None), ("( none none)", 1), ("(none none", 10), ("o", 1), ("on", 2), ("on(", 3), ("on()", 3), ("on([])", None),
            ("on ([])", 2), ("on([]", 5), ("on([]))", 6), ("on([],[])", 5), ("one", 2), ("back([])", None), ("bac", 3), ("bak", 2), ("back[]", 4),
            ("mix", 3), ("mix()", 4), ("mix([])", None), ("mix([],)", 7), ("mix([], [])", 7), ("mix([],[x]", 10), ("mix([] [])", 6), ("mi x", 2),
            ("mix(,[])", 4), ("mix([x],[])", None), ("mix([],[])", None), ("mix(none,on([]),[])", None), ("[x\n]", 2), ("\n", 0), ("on([])\n", 6),
            ("[\u00e9]", 1), ("mix(mix(mix([x,y])))", None), ("mix(mix(mix([x,y]))", 19), ("then([] [])", 0), ("letter", 0),
        ):
            self.check(XY, text, at)

    def test_names_that_begin_alike(self):
        scope = ("a", "ab", "abc")
        for text, at in (
            ("[a]", None), ("[ab]", None), ("[abc]", None), ("[abcd]", 4), ("[a,ab]", None), ("[a,abc]", None), ("[ab,abc]", None), ("[ab,a]", 5),
            ("[ab,ab]", 6), ("[ab,abd", 6), ("[abc,", 4), ("[a,a]", 4), ("[a,b]", 3), ("[a,ab,abc]", None), ("[a,ab,ab]", 8), ("[b]", 1), ("[ac]", 2),
        ):
            self.check(scope, text, at)
        for text, at in (("[xab]", None), ("[xa]", 3), ("[x]", None), ("[x,xab]", None), ("[x,x]", 4), ("[xab,x]", 4), ("[xb]", 2)):
            self.check(("x", "xab"), text, at)
        for text, at in (("[]", None), ("[x]", 1), ("[,]", 1), ("[", 1)):
            self.check((), text, at)

    def test_lengths_beside_all_ways(self):
        random = Random(161)
        signs = "nonebackmix([,]) xya"
        for scope in SCOPES:
            for weave in many_weaves(162, scope, 4, 12):
                text = weave_text(scope, weave)
                for _ in range(5):
                    at = random.randrange(len(text) + 1)
                    sign = random.choice(signs)
                    for other in (text[:at], text[:at] + sign + text[at:], text[:at] + sign + text[at + 1:], text[:at] + text[at + 1:]):
                        self.check(scope, other, weave_length(scope, other))

    def test_depth(self):
        for head in ("on(", "back(", "mix("):
            long = len(head)
            self.check((), head * 59 + "[]" + ")" * 59, None)
            self.check((), head * 60 + "[]" + ")" * 60, 59 * long)
            self.check((), head * 59, 59 * long)
            self.check((), head * 59 + head[0], 59 * long)
            self.check((), head * 58 + head[0], 58 * long + 1)
        self.check((), "(" * 59 + "[]" + " [])" * 59, None)
        self.check((), "(" * 60, 59)
        self.assertEqual(self.at((), "(" * 100000), 59)
        self.check((), "([] " * 59 + "[]" + ")" * 59, None)
        self.check((), "([] " * 60, 59 * 4)
        self.check((), "on(" * 58 + "([] on([]))" + ")" * 58, 58 * 3 + 4)
        self.check((), "on(" * 58 + "mix([],none" + ")" * 59, None)
        self.check((), "on(" * 58 + "mix([],on([])", 58 * 3 + 7)

    def test_nodes(self):
        many = "mix(" + ",".join(["[]"] * 399) + ")"
        self.check((), many, None)
        self.check((), "mix(" + ",".join(["[]"] * 400) + ")", 4 + 399 * 3 - 1)
        self.assertEqual(weave_of((), weave_text((), bush(399))), bush(399))
        whole = ("then", bush(199), ("then", bush(99), bush(99)))
        self.check((), weave_text((), whole), None)
        text = weave_text((), bush(199))
        self.check((), "(" + text + " on(" + text + "))", None)
        # The last bracket but those at the end would bring the node that is too much.
        wide = "(" + text + " on(on(" + text + ")))"
        self.check((), wide, wide.rindex("("))
        self.check((), "mix(" + ",".join(["[]"] * 397) + ",on([]))", None)
        self.check((), "mix(" + ",".join(["[]"] * 398) + ",on([]))", 4 + 398 * 3)
        self.check((), "mix(" + ",".join(["[]"] * 398) + ",(", 4 + 398 * 3)
        self.check((), "mix(" + ",".join(["[]"] * 398) + ",[])", None)

    def test_mixes_out_of_order(self):
        for text in (
            "mix([x],[])", "mix([],[])", "mix(none,[])", "on(mix([x],[]))", "([] mix(none,none))", "mix(mix([x],[]),none)", "mix([],on([]),none)",
            "mix([x,y],[y],[x])",
        ):
            self.assertRaises(BadWeave, weave_of, XY, text)
        # Ahead of that the text must be one.
        self.assertRaises(BadText, weave_of, XY, "(mix([x],[]) ")

    def test_errors_in_order(self):
        for bad in odd_values() + BAD_SCOPES:
            self.assertRaises(BadScope, weave_of, bad, None)
            self.assertRaises(BadScope, weave_text, bad, None)
        for bad in odd_values() + BAD_WEAVES:
            self.assertRaises(BadWeave, weave_text, XY, bad)
        for bad in odd_values() + [["none"], ("none",), 0]:
            if not isinstance(bad, str):
                with self.assertRaises(BadText) as caught:
                    weave_of(XY, bad)
                self.assertEqual(caught.exception.at, 0)
        self.assertEqual(weave_of(scope=XY, text=weave_text(scope=XY, weave=on(A))), on(A))
        self.assertEqual(weave_of((), weave_text((), deep(60))), deep(60))
