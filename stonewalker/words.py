"""Words of a sheet: how names, numbers, ends and ways are read, and how what is told is written."""

FIGURES = "0123456789"
LETTERS = "abcdefghijklmnopqrstuvwxyz"


def is_name(word):
    return 1 <= len(word) <= 8 and all([sign in LETTERS for sign in word])


# The number, None where the word is none.
def number_in(word):
    if not 1 <= len(word) <= 6 or not all([sign in FIGURES for sign in word]):
        return None
    if word[0] == "0" and word != "0":
        return None
    return int(word)


# The numbers that the sign parts in the word, None where one of them is none.
def numbers_in(word, sign):
    numbers = [number_in(part) for part in word.split(sign)]
    return None if None in numbers else tuple(numbers)


def end_in(word):
    numbers = numbers_in(word, ".")
    return numbers if numbers is not None and len(numbers) == 2 else None


def way_in(word):
    return () if word == "-" else numbers_in(word, ",")


# The texts parted by the sign, a dash where there are none.
def listed(texts, sign):
    return sign.join(texts) if texts else "-"


def numbers_text(numbers):
    return listed([str(number) for number in numbers], ",")


def couple_text(couple, sign):
    return str(couple[0]) + sign + str(couple[1])


def end_text(end):
    return couple_text(end, ".")


def web_text(web):
    return listed([listed([end_text(end) for end in ends], ",") for ends in web], " ")


def ties_text(ties):
    return listed([end_text(tie[0]) + "-" + end_text(tie[1]) for tie in ties], " ")


def pairs_text(pairs):
    return listed([couple_text(pair, ":") for pair in pairs], " ")
