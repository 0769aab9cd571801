"""Words of a text: which of them write a number."""

FIGURES = "0123456789"
MOST_FIGURES = 40


def is_number(word):
    figures = word[1:] if word.startswith("-") else word
    if figures == "" or len(figures) > MOST_FIGURES:
        return False
    # Python's own isdigit and int take more than the ten figures.
    if not all([sign in FIGURES for sign in figures]):
        return False
    return figures[0] != "0" or word == "0"
