"""The tokens of a text, which is a list of bytes."""

from boxranks.faults import Fault

NO_TOKEN = 2

BLANKS = (32, 9, 10)
REMARK = 35
LINE_END = 10
ZERO = 48

NAME = "name"
NUMBER = "number"
END = "end"

WORDS = ("box", "edge", "above", "group")
SIGNS = ("{", "}", ";", ":", "->")

LONGEST_NAME = 16
GREATEST_NUMBER = 1000000000
MOST_DIGITS = 10


class Token:
    """A token: its kind (of a word or a sign, how it is written), its bytes, and the place of its first byte."""

    def __init__(self, kind, spelling, place):
        self.kind = kind
        self.spelling = spelling
        self.place = place


def spelled(signs):
    """The bytes of a written text."""
    return tuple([ord(sign) for sign in signs])


def number_spelled(spelling):
    """The number whose digits are these bytes."""
    number = 0
    for byte in spelling:
        number = number * 10 + byte - ZERO
    return number


def tokens_of(text):
    """All tokens of a text, and behind them one of the kind END, so that there is always one to look at."""
    tokens = []
    place = gap_end(text, 0)
    while place < len(text):
        token = token_at(text, place)
        tokens.append(token)
        place = gap_end(text, place + len(token.spelling))
    tokens.append(Token(END, (), place))
    return tokens


def gap_end(text, place):
    """The first place from this one on that belongs to no blank and no remark."""
    while place < len(text) and (text[place] in BLANKS or text[place] == REMARK):
        if text[place] == REMARK:
            place = remark_end(text, place)
        else:
            place = place + 1
    return place


def remark_end(text, place):
    """The place of the row's end that ends a remark, or the text's end."""
    while place < len(text) and text[place] != LINE_END:
        place = place + 1
    return place


def token_at(text, place):
    """The token that begins at a place."""
    if is_letter(text[place]):
        return word_at(text, place)
    if is_digit(text[place]):
        return number_at(text, place)
    return sign_at(text, place)


def is_letter(byte):
    """Whether a byte is one of a to z, A to Z."""
    return 97 <= byte <= 122 or 65 <= byte <= 90


def is_digit(byte):
    """Whether a byte is one of 0 to 9."""
    return 48 <= byte <= 57


def word_at(text, place):
    """The word or the name that begins at a place."""
    end = place
    while end < len(text) and (is_letter(text[end]) or is_digit(text[end])):
        end = end + 1
    spelling = tuple(text[place:end])
    if len(spelling) > LONGEST_NAME:
        raise Fault(NO_TOKEN, place)
    for word in WORDS:
        if spelling == spelled(word):
            return Token(word, spelling, place)
    return Token(NAME, spelling, place)


def number_at(text, place):
    """The number that begins at a place."""
    end = place
    while end < len(text) and is_digit(text[end]):
        end = end + 1
    spelling = tuple(text[place:end])
    if spelling[0] == ZERO and len(spelling) > 1:
        raise Fault(NO_TOKEN, place)
    # The digits are counted first, so that no number of thousands of digits is ever worked out.
    if len(spelling) > MOST_DIGITS or number_spelled(spelling) > GREATEST_NUMBER:
        raise Fault(NO_TOKEN, place)
    return Token(NUMBER, spelling, place)


def sign_at(text, place):
    """The sign that begins at a place."""
    for sign in SIGNS:
        spelling = spelled(sign)
        if tuple(text[place:place + len(spelling)]) == spelling:
            return Token(sign, spelling, place)
    raise Fault(NO_TOKEN, place)
