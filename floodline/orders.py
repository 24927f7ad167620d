"""Orders of all recorded frames that keep needs, for arguments that have been checked before.

A stage tells how many frames each host has sent. It has a number, which grows by the step of a host with each of its
frames.
"""

from floodline.recorded import frames_in


def needed_before(record, needs):
    """Return a dict from all recorded frames to the lists of the frames that must be sent before them."""
    before = {frame: [] for frame in frames_in(record)}
    for first, second in needs:
        before[second].append(first)
    return before


def next_frames(record, before, sent):
    """Return the ascending list of the frames that can be sent next, behind so many of each host."""
    found = []
    for host in sorted(record):
        frame = (host, sent[host])
        if frame in before and all([index < sent[other] for other, index in before[frame]]):
            found.append(frame)
    return found


def least_order(record, needs):
    """Return the least order that keeps needs, cut off where no frame can be next."""
    before = needed_before(record, needs)
    sent = {host: 0 for host in record}
    order = []
    choices = next_frames(record, before, sent)
    while choices:
        host, index = choices[0]
        order.append((host, index))
        sent[host] = index + 1
        choices = next_frames(record, before, sent)
    return order


def ring_in(record, needs):
    """Return a list of frames each of which needs the one before it, the first one the last one; None without any."""
    done = least_order(record, needs)
    left = [frame for frame in frames_in(record) if frame not in done]
    if not left:
        return None
    before = needed_before(record, needs)
    path = []
    frame = left[0]
    # Each frame that is left needs another one that is left, so that the path comes back to itself.
    while frame not in path:
        path.append(frame)
        wanted = [other for other in before[frame] if other in left]
        frame = wanted[0]
    ring = path[path.index(frame):]
    return ring[::-1]


def all_before(record, needs, frame):
    """Return the ascending list of the frames that must be sent before a frame, directly or not."""
    before = needed_before(record, needs)
    found = {}
    waiting = [frame]
    while waiting:
        last = waiting.pop()
        for other in before[last]:
            if other not in found:
                found[other] = True
                waiting.append(other)
    return sorted(found)


def all_after(record, needs, frame):
    """Return the ascending list of the frames that must be sent after a frame, directly or not."""
    return all_before(record, [(second, first) for first, second in needs], frame)


def count_stages(record):
    """Return the number of stages: the product of the numbers of recorded frames of all hosts, each plus 1."""
    many = 1
    for host in record:
        many = many * (len(record[host]) + 1)
    return many


def steps_in(record):
    """Return the dict of the steps of the hosts."""
    steps = {}
    step = 1
    for host in sorted(record):
        steps[host] = step
        step = step * (len(record[host]) + 1)
    return steps


def sent_at(record, steps, stage):
    """Return the dict of how many frames each host has sent at the stage with a number."""
    return {host: stage // steps[host] % (len(record[host]) + 1) for host in record}


def ways_in(record, needs):
    """Return, for the number of each stage, how many orders of the frames that are left keep needs."""
    before = needed_before(record, needs)
    steps = steps_in(record)
    last = count_stages(record) - 1
    ways = [0] * last + [1]
    for stage in reversed(range(last)):
        choices = next_frames(record, before, sent_at(record, steps, stage))
        ways[stage] = sum([ways[stage + steps[host]] for host, _ in choices])
    return ways


def nth_order(record, needs, number):
    """Return the order with an index among those that keep needs, in ascending order."""
    before = needed_before(record, needs)
    steps = steps_in(record)
    ways = ways_in(record, needs)
    order = []
    stage = 0
    left = number
    while stage < len(ways) - 1:
        choices = next_frames(record, before, sent_at(record, steps, stage))
        for frame in choices:
            there = stage + steps[frame[0]]
            if left < ways[there]:
                break
            left = left - ways[there]
        order.append(frame)
        stage = there
    return order
