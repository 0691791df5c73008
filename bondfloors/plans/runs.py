"""Runs: triples (first, last, step) of the seams of a plan, so that no side is gone along line by line."""


def parts_between(side, spans):
    """The ascending list of the pairs (first, last) of lines between which no span begins or ends."""
    ends = [end for span in spans for end in span[:2]]
    cuts = sorted(set([0, side] + ends))
    parts = []
    for low, high in zip(cuts, cuts[1:]):
        if low > 0:
            parts.append((low, low))
        if high - low > 1:
            parts.append((low + 1, high - 1))
    return parts


def run_within(part, spans, length):
    """The run of the seams from the first to the last line of a part, or None."""
    first, last = part
    # Each span that goes through the part leaves uncrossed just the lines at multiples of the length from its start.
    starts = sorted({start % length for start, end, _ in spans if start < first and last < end})
    if len(starts) == 0:
        return (first, last, 1)
    if len(starts) > 1:
        return None
    low = first + (starts[0] - first) % length
    high = last - (last - starts[0]) % length
    return (low, high, length) if low <= high else None


def runs_of(side, spans, length):
    """The ascending list of the runs of the seams of one way."""
    runs = [run_within(part, spans, length) for part in parts_between(side, spans)]
    return [run for run in runs if run is not None]


def many_in(runs):
    """The number of the seams of the runs."""
    return sum([(last - first) // step + 1 for first, last, step in runs])


def next_in(runs, least):
    """The first seam of the runs that is at least this number, or None."""
    for first, last, step in runs:
        if least <= last:
            return max(first, least + (first - least) % step)
    return None
