"""Texts and tokens: a text, a list of bytes, is parted into names, words, numbers and signs."""

from keptready.faults import NO_TOKEN, Fault

NAME = "name"
NUMBER = "number"
END = "end"
WORDS = ("columns", "row", "ask", "times")
SIGNS = {44: ",", 58: ":", 59: ";", 45: "-"}
BLANKS = (32, 9, 10)
REMARK = 35
ROW_END = 10
ZERO = 48
LONGEST_NAME = 16
GREATEST_NUMBER = 1000000000


class Token:
    """What stands from place to end. A word's kind is the word itself, a sign's the sign."""

    def __init__(self, kind, value, place, end):
        self.kind = kind
        self.value = value
        self.place = place
        self.end = end


def is_letter(byte):
    return 65 <= byte <= 90 or 97 <= byte <= 122


def is_digit(byte):
    return 48 <= byte <= 57


def bytes_of(word):
    return tuple([ord(letter) for letter in word])


def end_of_blanks(text, start):
    """Where the blanks and remarks end that begin at start."""
    in_remark = False
    for place in range(start, len(text)):
        byte = text[place]
        if byte == REMARK:
            in_remark = True
        elif byte == ROW_END:
            in_remark = False
        if not in_remark and byte not in BLANKS:
            return place
    return len(text)


def name_at(text, place):
    end = place
    while end < len(text) and (is_letter(text[end]) or is_digit(text[end])):
        end += 1
    name = tuple(text[place:end])
    for word in WORDS:
        if name == bytes_of(word):
            return Token(word, name, place, end)
    if len(name) > LONGEST_NAME:
        raise Fault(NO_TOKEN, place)
    return Token(NAME, name, place, end)


def number_at(text, place):
    end = place
    number = 0
    while end < len(text) and is_digit(text[end]):
        number = 10 * number + text[end] - ZERO
        end += 1
    needless_zero = text[place] == ZERO and end > place + 1
    if needless_zero or number > GREATEST_NUMBER:
        raise Fault(NO_TOKEN, place)
    return Token(NUMBER, number, place, end)


def token_at(text, place):
    byte = text[place]
    if byte in SIGNS:
        return Token(SIGNS[byte], 0, place, place + 1)
    if is_letter(byte):
        return name_at(text, place)
    if is_digit(byte):
        return number_at(text, place)
    raise Fault(NO_TOKEN, place)


def tokens_of(text):
    """All tokens of the text; the last one is its end."""
    tokens = []
    place = end_of_blanks(text, 0)
    while place < len(text):
        token = token_at(text, place)
        tokens.append(token)
        place = end_of_blanks(text, token.end)
    tokens.append(Token(END, 0, len(text), len(text)))
    return tokens
