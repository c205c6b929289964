"""A desk that keeps formulas and words by names, and answers rows."""

from alongall.deciding import follows, means, shown
from alongall.errors import BadFormula, BadName, BadScope, BadSentence, BadText, BadWeave, NoName, TooMany
from alongall.formulas import free_names
from alongall.kinds import is_kind
from alongall.placing import where
from alongall.scopes import is_scope
from alongall.texts import formula_of, text_of
from alongall.verdicts import verdict_in
from alongall.weavetexts import weave_of, weave_text
from alongall.words import is_name

# What each row has behind its first word: F the name of a formula, W that of a word, N any name, K a kind, S a scope,
# T a text.
FORMS = {
    "let": "NT", "word": "NST", "ask": "FW", "mark": "FNWN", "show": "FWN", "verdict": "FK", "follows": "FF",
    "text": "F", "told": "W", "undo": "",
}


def scope_in(text):
    """The scope that a text tells, None if it tells none."""
    scope = () if text == "-" else tuple(text.split(","))
    return scope if is_scope(scope) else None


def fits(form, part):
    """Whether a part of a row is what its form says."""
    if form == "K":
        return is_kind(part)
    if form == "S":
        return scope_in(part) is not None
    return form == "T" or is_name(part)


def parts_in_row(row):
    """The parts of any value that is a row, None if it is none."""
    if not isinstance(row, str):
        return None
    head = row.split(" ", 1)[0]
    if head not in FORMS:
        return None
    forms = FORMS[head]
    # A text goes to the end of the row, blanks and all.
    parts = row.split(" ", len(forms)) if "T" in forms else row.split(" ")
    if len(parts) != len(forms) + 1 or not all(fits(form, part) for form, part in zip(forms, parts[1:])):
        return None
    return parts


class Desk:
    """Formulas and words by their names, and what they were ahead of each row that changed them."""

    def __init__(self):
        self.formulas = {}
        self.words = {}
        self.past = []

    def keep(self, table, name, thing):
        """Keeps a thing under a name; what the name kept is kept no longer."""
        self.past.append((table, name, table.get(name)))
        table[name] = thing
        return "kept"

    def undo(self):
        """Takes back the last change that is not taken back yet."""
        if len(self.past) == 0:
            return "nothing"
        table, name, before = self.past.pop()
        table.pop(name)
        if before is not None:
            table[name] = before
        return "undone"

    def let(self, name, text):
        """Keeps the formula with this text."""
        return self.keep(self.formulas, name, formula_of(text))

    def word(self, name, scope, text):
        """Keeps the word with this text."""
        return self.keep(self.words, name, (scope, weave_of(scope, text)))

    def unknown(self, parts):
        """The first name of a formula or a word in a row that keeps none, None if there is none."""
        for form, part in zip(FORMS[parts[0]], parts[1:]):
            if (form == "F" and part not in self.formulas) or (form == "W" and part not in self.words):
                return part
        return None

    def ask(self, formula, word):
        """Whether the formula holds in the word."""
        scope, weave = self.words[word]
        return "yes" if means(self.formulas[formula], scope, weave) else "no"

    def mark(self, formula, name, word, new):
        """Keeps the word with the name where the formula holds."""
        told = self.formulas[formula]
        scope, weave = self.words[word]
        return self.keep(self.words, new, (free_names(told), where(told, name, scope, weave)))

    def show(self, formula, word, new):
        """Keeps a word that shows the formula, if there is one."""
        told = self.formulas[formula]
        scope, weave = self.words[word]
        found = shown(told, scope, weave)
        if found is None:
            return "none"
        return self.keep(self.words, new, (free_names(told[2]), found[0]))

    def tell(self, word):
        """The row by which the word would be kept."""
        scope, weave = self.words[word]
        return " ".join(["word", word, ",".join(scope) if len(scope) > 0 else "-", weave_text(scope, weave)])

    def answer(self, parts):
        """The answer to a row that has all that it speaks of."""
        head = parts[0]
        if head == "let":
            return self.let(parts[1], parts[2])
        if head == "word":
            return self.word(parts[1], scope_in(parts[2]), parts[3])
        if head == "ask":
            return self.ask(parts[1], parts[2])
        if head == "mark":
            return self.mark(parts[1], parts[2], parts[3], parts[4])
        if head == "show":
            return self.show(parts[1], parts[2], parts[3])
        if head == "verdict":
            return verdict_in(self.formulas[parts[1]], parts[2])[0]
        if head == "follows":
            return "yes" if follows(self.formulas[parts[1]], self.formulas[parts[2]]) is None else "no"
        if head == "text":
            return text_of(self.formulas[parts[1]])
        return self.tell(parts[1]) if head == "told" else self.undo()

    def say(self, row):
        """The answer to any value as a row."""
        parts = parts_in_row(row)
        if parts is None:
            return "what"
        name = self.unknown(parts)
        if name is not None:
            return "unknown " + name
        try:
            return self.answer(parts)
        except BadText as wrong:
            return f"wrong {wrong.at}"
        except (BadFormula, BadWeave):
            return "unfit" if parts[0] in ("let", "word") else "unbound"
        except BadSentence:
            return "open"
        except BadName:
            return "unbound"
        except NoName as lacking:
            return "lacking " + lacking.name
        except BadScope:
            return "broad"
        except TooMany:
            return "many"

    def kept(self):
        """A pair of dicts, of the formulas and of the words, with their scopes, by their names."""
        formulas = {name: self.formulas[name] for name in sorted(self.formulas)}
        return formulas, {name: self.words[name] for name in sorted(self.words)}
