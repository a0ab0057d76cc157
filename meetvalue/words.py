"""The words of an expression."""

from meetvalue.errors import NoText
from meetvalue.things import is_sign

SINGLE_SIGNS = "{}[](),:?&|!@."
MOST_FIGURES = 60


def words_of(text):
    if not isinstance(text, str):
        raise NoText("not a text")
    words = []
    place = 0
    while place < len(text):
        if text[place] == " ":
            place += 1
        else:
            words.append(word_at(text, place))
            place += len(words[-1])
    return words


def word_at(text, place):
    sign = text[place]
    if is_letter(sign):
        return text[place:run_end(text, place, is_letter)]
    if sign == "-" or is_figure(sign):
        return number_at(text, place)
    if sign == "\"":
        return quoted_at(text, place)
    if text[place:place + 2] == "..":
        return ".."
    if sign in SINGLE_SIGNS:
        return sign
    raise NoText(f"no word begins with {sign!r}")


# Where the run of signs that fit ends, perhaps at once.
def run_end(text, place, fits):
    end = place
    while end < len(text) and fits(text[end]):
        end += 1
    return end


# Compared, not asked with isdigit and its like, which let in figures and letters of other scripts.
def is_letter(sign):
    return "a" <= sign <= "z"


def is_figure(sign):
    return "0" <= sign <= "9"


def number_at(text, place):
    start = place + 1 if text[place] == "-" else place
    word = text[place:run_end(text, start, is_figure)]
    figures = word[start - place:]
    if figures == "" or len(figures) > MOST_FIGURES or (figures[0] == "0" and word != "0"):
        raise NoText(f"no number: {word!r}")
    return word


def quoted_at(text, place):
    end = run_end(text, place + 1, is_sign)
    if text[end:end + 1] != "\"":
        raise NoText("a quoted text that doesn't end, or has what is no sign")
    return text[place:end + 1]
