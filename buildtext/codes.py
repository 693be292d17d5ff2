"""ASCII texts as lists of bytes, and the bytes that quoted texts are told with."""

QUOTE = 34
BACKSLASH = 92
LETTER_X = 120


def codes_of(text):
    return [ord(sign) for sign in text]
