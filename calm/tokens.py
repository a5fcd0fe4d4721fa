"""Words, numbers, signs and blanks of one row of text [7] [8]."""

from calm.errors import NoText

LETTERS = "abcdefghijklmnopqrstuvwxyz"
FIGURES = "0123456789"
WORD_SIGNS = "abcdefghijklmnopqrstuvwxyz0123456789"
LONG_SIGNS = ("<=", ">=")
SHORT_SIGNS = ("+", "-", "*", "<", ">", "=", "[", "]", ",")
KEY_WORDS = (
    "box", "lock", "hand", "own", "end", "set", "wait", "if", "else", "while", "rounds", "either",
    "or", "and", "not", "take", "give", "label", "say", "at", "divides", "true", "false",
)
LONGEST_NAME = 8


def is_name(word):
    return (
        1 <= len(word) <= LONGEST_NAME
        and word[0] in LETTERS
        and all([sign in WORD_SIGNS for sign in word])
        and word not in KEY_WORDS
    )


def is_number(word):
    if word == "" or not all([sign in FIGURES for sign in word]):
        return False
    return word == "0" or word[0] != "0"


def word_end(text, spot):
    while spot < len(text) and text[spot] in WORD_SIGNS:
        spot = spot + 1
    return spot


# A blank is a piece too, so that only what is no piece at all is refused.
def piece_at(text, spot, row):
    if text[spot] in WORD_SIGNS:
        return text[spot:word_end(text, spot)]
    if text[spot:spot + 2] in LONG_SIGNS:
        return text[spot:spot + 2]
    if text[spot] == " " or text[spot] in SHORT_SIGNS:
        return text[spot]
    raise NoText(row)


def tokens_of(text, row):
    tokens = []
    spot = 0
    while spot < len(text):
        piece = piece_at(text, spot, row)
        if piece != " ":
            tokens.append(piece)
        spot = spot + len(piece)
    return tokens


# Goes through the tokens of one row; every refusal bears the number of this row.
class Reader:
    def __init__(self, text, row):
        self.tokens = tokens_of(text, row)
        self.row = row
        self.spot = 0

    # Past the last token it is the text without signs, which no token is.
    def seen(self, far):
        if self.spot + far >= len(self.tokens):
            return ""
        return self.tokens[self.spot + far]

    def next_token(self):
        token = self.seen(0)
        self.spot = self.spot + 1
        return token

    def took(self, token):
        if self.seen(0) != token:
            return False
        self.spot = self.spot + 1
        return True

    def need(self, token):
        if not self.took(token):
            raise NoText(self.row)

    def need_end(self):
        if self.spot < len(self.tokens):
            raise NoText(self.row)

    def next_name(self):
        word = self.next_token()
        if not is_name(word):
            raise NoText(self.row)
        return word

    # Lengths are looked at first: Python turns no text of some thousand figures into a number.
    def next_number(self, least, greatest):
        word = self.next_token()
        if not is_number(word) or len(word) > len(str(greatest)):
            raise NoText(self.row)
        number = int(word)
        if number < least or number > greatest:
            raise NoText(self.row)
        return number
