"""Kinds of rooms: those that no way parts, or no short one."""


# Numbers by first standing, so that kinds rise by their least rooms, and like kinds get like numbers.
def numbered(looks):
    numbers = {}
    for look in looks:
        if look not in numbers:
            numbers[look] = len(numbers)
    return [numbers[look] for look in looks]


# Each room's kind by ways of at most so many doors.
def kind_numbers(web, steps):
    marks = numbered([len(ends) for ends in web])
    for step in range(steps):
        finer = numbered([tuple([(end[1], marks[end[0]]) for end in ends]) for ends in web])
        # A step that parts no kind is followed by none that does, however many are asked for.
        if finer == marks:
            return marks
        marks = finer
    return marks


def kinds_by(web, steps):
    told = []
    for room, number in enumerate(kind_numbers(web, steps)):
        if number == len(told):
            told.append([])
        told[number].append(room)
    return told


# Each step that parts a kind makes one more, so there are fewer such steps than rooms.
def kinds(web):
    return kinds_by(web, len(web))
