"""What may be wrong with a table's text."""

TEXT_TOO_LONG = 1
NO_TOKEN = 2
NOT_ALLOWED = 3
TOO_MANY = 4
COLUMN_AGAIN = 5
ASKED_AGAIN = 6
OUT_OF_BOUNDS = 7
NO_COLUMN = 8


class Fault(Exception):
    """A fault's code, and the place in the text where it is."""

    def __init__(self, code, place):
        self.code = code
        self.place = place
