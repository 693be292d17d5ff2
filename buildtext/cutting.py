"""Cutting a text into tokens."""

from buildtext.codes import BACKSLASH, LETTER_X, QUOTE, codes_of
from buildtext.refusals import TokenFault

MOST_IN_WORD = 32
MOST_DIGITS = 19
MOST_WORTH = 1000000000000000000
MOST_TOLD = 1024

LINE_FEED = 10
HASH = 35
ZERO = 48

# Stands where a text has no byte any more; it equals no byte.
NO_BYTE = 256

BLANKS = (32, 9, 10, 13)
KEPT_WORDS = (
    "load", "def", "if", "else", "for", "in", "return",
    "or", "and", "not", "true", "false", "none",
)
ESCAPES = {34: 34, 92: 92, 110: 10, 116: 9}
LONG_SIGNS = {(61, 61): "==", (33, 61): "!=", (60, 61): "<="}
# The sign of byte 37 goes by a word, for it may not stand in a text of this program.
SHORT_SIGNS = {
    61: "=", 60: "<", 43: "+", 45: "-", 42: "*", 47: "/", 37: "percent",
    40: "(", 41: ")", 91: "[", 93: "]", 123: "{", 125: "}",
    44: ",", 59: ";", 58: ":", 46: ".",
}


# The kind is the kept word or the sign itself, or one of: name, number, text, end.
class Token:
    def __init__(self, kind, place, after, data):
        self.kind = kind
        self.place = place
        self.after = after
        self.data = data


def cut(text):
    tokens = []
    at = 0
    while at < len(text):
        if text[at] in BLANKS:
            at += 1
        elif text[at] == HASH:
            at = remark_end(text, at)
        else:
            token = token_at(text, at)
            tokens.append(token)
            at = token.after
    tokens.append(Token("end", len(text), len(text), []))
    return tokens


def remark_end(text, place):
    at = place
    while at < len(text) and text[at] != LINE_FEED:
        at += 1
    return at


def token_at(text, place):
    byte = text[place]
    if is_letter(byte):
        return word_at(text, place)
    if is_digit(byte):
        return number_at(text, place)
    if byte == QUOTE:
        return quoted_at(text, place)
    return sign_at(text, place)


def is_letter(byte):
    return 97 <= byte <= 122 or 65 <= byte <= 90 or byte == 95


def is_digit(byte):
    return 48 <= byte <= 57


def word_at(text, place):
    after = word_end(text, place)
    if after - place > MOST_IN_WORD:
        raise TokenFault(place)
    data = text[place:after]
    kept = kept_word(data)
    if kept is None:
        return Token("name", place, after, data)
    return Token(kept, place, after, [])


def word_end(text, place):
    after = place
    while after < len(text) and (is_letter(text[after]) or is_digit(text[after])):
        after += 1
    return after


def kept_word(data):
    for word in KEPT_WORDS:
        if len(word) == len(data) and codes_of(word) == data:
            return word
    return None


# Whether all of a text is one name.
def is_name(text):
    if len(text) == 0 or len(text) > MOST_IN_WORD:
        return False
    return is_letter(text[0]) and word_end(text, 0) == len(text) and kept_word(text) is None


def number_at(text, place):
    after = place
    while after < len(text) and is_digit(text[after]):
        after += 1
    data = text[place:after]
    if len(data) > MOST_DIGITS or worth_of(data) > MOST_WORTH:
        raise TokenFault(place)
    if data[0] == ZERO and len(data) > 1:
        raise TokenFault(place)
    return Token("number", place, after, data)


def worth_of(digits):
    worth = 0
    for digit in digits:
        worth = worth * 10 + digit - ZERO
    return worth


def quoted_at(text, place):
    data = []
    at = place + 1
    while byte_at(text, at) != QUOTE:
        told = told_byte(text, at)
        if told == NO_BYTE or len(data) == MOST_TOLD:
            raise TokenFault(place)
        data.append(told)
        at += told_width(text, at)
    return Token("text", place, at + 1, data)


def byte_at(text, at):
    if at < len(text):
        return text[at]
    return NO_BYTE


def told_byte(text, at):
    byte = byte_at(text, at)
    if byte == BACKSLASH:
        return escaped_byte(text, at + 1)
    if 32 <= byte <= 126:
        return byte
    return NO_BYTE


def escaped_byte(text, at):
    byte = byte_at(text, at)
    if byte != LETTER_X:
        return ESCAPES.get(byte, NO_BYTE)
    high = hex_worth(byte_at(text, at + 1))
    low = hex_worth(byte_at(text, at + 2))
    if high is None or low is None:
        return NO_BYTE
    return high * 16 + low


def hex_worth(byte):
    if is_digit(byte):
        return byte - 48
    if 97 <= byte <= 102:
        return byte - 87
    return None


def told_width(text, at):
    if text[at] != BACKSLASH:
        return 1
    if text[at + 1] == LETTER_X:
        return 4
    return 2


def sign_at(text, place):
    pair = tuple(text[place:place + 2])
    if pair in LONG_SIGNS:
        return Token(LONG_SIGNS[pair], place, place + 2, [])
    byte = text[place]
    if byte in SHORT_SIGNS:
        return Token(SHORT_SIGNS[byte], place, place + 1, [])
    raise TokenFault(place)
