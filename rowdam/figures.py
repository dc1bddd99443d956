"""Numbers as texts of figures."""

FIGURES = "0123456789"
MOST_FIGURES = 20


def is_figures(text):
    # isdigit would let figures of other scripts by.
    if text == "" or any([sign not in FIGURES for sign in text]):
        return False
    return text == "0" or text[0] != "0"


def is_signed_figures(text):
    figures = text[1:] if text.startswith("-") else text
    return text != "-0" and is_figures(figures)


def is_count(text):
    return len(text) <= MOST_FIGURES and is_figures(text)


def is_number(text):
    return is_signed_figures(text) and len(text.lstrip("-")) <= MOST_FIGURES
