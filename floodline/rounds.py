"""Frames that are sent again and again, from silent switches on."""

from floodline.basics import check_number, check_position
from floodline.frames import heard_at, kinds_of, known_after
from floodline.lines import check_frames

MOST_ROUNDS = 10 ** 30


def kinds_in_round(line, frames, number):
    """Return the list of the kinds in a round; rounds are numbered from 0."""
    check_frames(line, frames)
    check_number(number, 0, MOST_ROUNDS)
    if number == 0:
        return kinds_of(line, frames)
    # No interval changes after the first round, so that all later ones are alike.
    return kinds_of(line, frames, start=known_after(line, frames))


def load_after(line, frames, count, position):
    """Return how many frames have reached a position after so many rounds."""
    check_frames(line, frames)
    check_number(count, 0, MOST_ROUNDS)
    check_position(position)
    if count == 0:
        return 0
    first = heard_at(line, frames, position)
    later = heard_at(line, frames, position, start=known_after(line, frames))
    return len(first) + len(later) * (count - 1)
