"""Rooms that walks through the oldest passages connect."""


def component_of(house, room, count):
    """Return the component of a room, through the `count` oldest passages, as an ascending list."""
    known = {room: True}
    waiting = [room]
    while waiting:
        here = waiting.pop()
        for start, end, _ in house[2][:count]:
            for near, far in ((start, end), (end, start)):
                if near == here and far not in known:
                    known[far] = True
                    waiting.append(far)
    return sorted(known)


def components(house, count):
    """Return the connected components as ascending lists, in the order of their first rooms."""
    found = []
    for room in range(house[0]):
        component = component_of(house, room, count)
        if component[0] == room:
            found.append(component)
    return found
