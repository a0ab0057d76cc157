"""Sets of texts."""

from meetvalue.things import is_text_of_signs


# All texts that neither set names fare alike; told are those named that fare otherwise.
def mixed_texts(word, one, other):
    named = sorted(set(one[1] + other[1]))
    among_one = marked(one[1])
    among_other = marked(other[1])
    one_but = one[0] == "but"
    other_but = other[0] == "but"
    but = mixed_truth(word, one_but, other_but)
    told = []
    for text in named:
        if mixed_truth(word, (text in among_one) != one_but, (text in among_other) != other_but) != but:
            told.append(text)
    return ("but" if but else "only", tuple(told))


# A dict finds a text at once, however many there are.
def marked(texts):
    return dict([(text, True) for text in texts])


def mixed_truth(word, one, other):
    if word == "or":
        return one or other
    if word == "less":
        return one and not other
    return one and other


def in_texts(texts, text):
    if texts[0] == "only":
        return text in texts[1]
    return is_text_of_signs(text) and text not in texts[1]


# Figures keep the text short, however many texts are left out.
def text_of(texts):
    if texts[0] == "only":
        return texts[1][0] if len(texts[1]) > 0 else None
    number = 0
    while str(number) in texts[1]:
        number += 1
    return str(number)
