"""What names, integers, operands and numbers of seats are."""

LETTERS = "abcdefghijklmnopqrstuvwxyz"
DIGITS = "0123456789"
NAME_LENGTH = 8
RESERVED = (
    "stop", "new", "if", "then", "else", "put", "get", "channel", "at", "define", "start",
)

MOST_DIGITS = 30
# The least integer with thirty-one digits.
TOO_LONG = 10 ** 30

MOST_SEATS = 4


def is_name(text):
    """Whether text is a name."""
    if not isinstance(text, str) or not 1 <= len(text) <= NAME_LENGTH:
        return False
    if text[0] not in LETTERS or text in RESERVED:
        return False
    return all([sign in LETTERS or sign in DIGITS for sign in text])


def are_names(texts):
    """Whether all texts are names and no two of them are equal."""
    return all([is_name(text) for text in texts]) and len(set(texts)) == len(texts)


def is_int(value):
    """Whether value is an integer."""
    # For Python, True and False are integers too.
    return isinstance(value, int) and not isinstance(value, bool)


def is_short(value):
    """Whether value is an integer with at most thirty digits."""
    return is_int(value) and -TOO_LONG < value < TOO_LONG


def is_operand(part):
    """Whether part is allowed as an operand."""
    return is_short(part) or is_name(part)


def is_seats(count):
    """Whether a channel can have this number of seats."""
    return is_int(count) and 1 <= count <= MOST_SEATS


def int_read(token):
    """The integer whose written form is the token, or None."""
    digits = token.removeprefix("-")
    if not 1 <= len(digits) <= MOST_DIGITS or not all([sign in DIGITS for sign in digits]):
        return None
    if digits[0] == "0" and token != "0":
        return None
    return int(token)


def int_text(value):
    """The written form of an integer of any size."""
    if value < 0:
        return "-" + int_text(-value)
    # Python itself refuses to write thousands of digits at once.
    groups = []
    while value >= TOO_LONG:
        value, group = divmod(value, TOO_LONG)
        groups.append(str(group).zfill(MOST_DIGITS))
    return "".join([str(value)] + groups[::-1])


def is_index(at, count):
    """Whether there is something at this index, where so many things are."""
    return is_int(at) and 0 <= at < count
