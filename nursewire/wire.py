"""The interface: a list of calls in, a list of answers out."""

from nursewire.calls import count_numbers, has_row, perform
from nursewire.ward import Ward


def answers(calls):
    """Give, for each call in the list, how many numbers are answered, and then these."""
    ward = Ward()
    given = []
    at = 0
    while at < len(calls):
        place = calls[at]
        row_at = at + 1 + count_numbers(place)
        numbers = calls[at + 1:row_at]
        row = []
        at = row_at
        if has_row(place):
            at = row_at + 1 + calls[row_at]
            row = calls[row_at + 1:at]
        answer = perform(ward, place, numbers, row)
        given.append(len(answer))
        given.extend(answer)
    return given
