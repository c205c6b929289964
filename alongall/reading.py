"""Reading of texts, sign by sign, as far as they could be the beginning of a right one."""

from alongall.errors import BadText
from alongall.words import KEPT, LETTERS_OF_NAMES

LONGEST_NAME = 8


class Reading:
    """A text, how far it is read, and how many nodes its tree has at least."""

    def __init__(self, text, most):
        self.text = text
        self.at = 0
        self.nodes = 1
        self.most = most

    def sign(self):
        """The next sign, "" at the end."""
        return self.text[self.at:self.at + 1]

    def fail(self):
        """BadText here: what stands ahead could be a beginning, with the next sign it could not."""
        raise BadText(self.at)

    def take(self, word):
        """Goes over a word; BadText where it does not stand."""
        for sign in word:
            if self.sign() != sign:
                self.fail()
            self.at = self.at + 1

    def grow(self, more):
        """So many nodes more; BadText if there is no room for them."""
        if self.nodes + more > self.most:
            self.fail()
        self.nodes = self.nodes + more

    def letters(self):
        """Goes over the letters a to z, as many as there are up to 8, and tells them."""
        start = self.at
        while self.at - start < LONGEST_NAME and self.sign() != "" and self.sign() in LETTERS_OF_NAMES:
            self.at = self.at + 1
        return self.text[start:self.at]

    def named(self):
        """Goes over a name and tells it."""
        word = self.letters()
        if word == "" or word in KEPT:
            self.fail()
        return word

    def end(self):
        """BadText unless all is read."""
        if self.at < len(self.text):
            self.fail()
