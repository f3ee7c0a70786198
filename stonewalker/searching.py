"""The least way, of the fewest doors and then the first, to what is looked for."""


# The least way from where it is begun to what is_there takes, None where there is none; beyond tells what lies behind
# door 0, 1, 2 .. of something. Ways are tried as they rise, so that of several to one thing the first is enough.
def least_way(begun, beyond, is_there):
    level = [((), begun)]
    known = {begun: True}
    while level:
        further = []
        for way, here in level:
            if is_there(here):
                return way
            for door, there in enumerate(beyond(here)):
                if there not in known:
                    known[there] = True
                    further.append((way + (door,), there))
        level = further
    return None
