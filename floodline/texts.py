"""The texts of lines and of frames."""

from floodline.basics import is_name, is_position
from floodline.errors import InvalidText
from floodline.lines import MOST_FRAMES, MOST_HOSTS, check_frames, check_line, in_order, is_frame

DIGITS = "0123456789"
MOST_DIGITS = 31


def format_line(line):
    """Return the text of a line."""
    return " ".join([f"{host}@{line[host]}" for host in in_order(line)])


def format_frames(line, frames):
    """Return the text of frames."""
    check_frames(line, frames)
    return " ".join([f"{sender}>{target}" for sender, target in frames])


def parse_line(text):
    """Return the line with a text."""
    line = {}
    for at, word in enumerate(words_in(text, MOST_HOSTS)):
        placed = placed_host(word)
        if placed is None or not can_follow(line, placed):
            raise InvalidText(at)
        host, position = placed
        line[host] = position
    if len(line) == 0:
        raise InvalidText(0)
    return {host: line[host] for host in sorted(line)}


def parse_frames(line, text):
    """Return the frames of the line with a text."""
    check_line(line)
    frames = []
    for at, word in enumerate(words_in(text, MOST_FRAMES)):
        sender, _, target = word.partition(">")
        if not is_frame(line, (sender, target)):
            raise InvalidText(at)
        frames.append((sender, target))
    return frames


def words_in(text, most):
    """Return the list of the words of a text; raise InvalidText if any value is no string or has too many."""
    if not isinstance(text, str):
        raise InvalidText(None)
    # The empty string has no words, but its split has one.
    words = text.split(" ") if text != "" else []
    if len(words) > most:
        raise InvalidText(None)
    return words


def placed_host(word):
    """Return the tuple of the host and the position of a word, None if it is no such word."""
    host, _, number = word.partition("@")
    if not is_name(host) or not is_decimal(number):
        return None
    position = int(number)
    return (host, position) if is_position(position) else None


def is_decimal(number):
    """Return whether a string is a decimal number of a length that a position may have, without leading zeros."""
    digits = number.removeprefix("-")
    # Not isdigit: signs that are no decimal digits have to be refused, too. And int does not take thousands of digits.
    if not 1 <= len(digits) <= MOST_DIGITS or not all([digit in DIGITS for digit in digits]):
        return False
    return number == str(int(number))


def can_follow(line, placed):
    """Return whether a host with its position can stand behind those of a line."""
    host, position = placed
    return host not in line and all([other < position for other in list(line.values())])
