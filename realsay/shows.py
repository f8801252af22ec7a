"""Sentences shown as texts, such that each text is read as the very sentence that it shows."""

from realsay.sentences import binds, is_compare, joins

SIGNS = {"less": "<", "most": "<=", "equal": "=", "unlike": "/="}
# Behind the word of a sentence stand the words of those parts of it that would be read otherwise without brackets.
IN_BRACKETS = {
    "either": ("either", "some", "all"),
    "both": ("both", "either", "some", "all"),
    "not": ("both", "either", "some", "all"),
}


def shown(S):
    word = S[0]
    if is_compare(S):
        return shown_compare(word, S[1])
    if joins(S):
        parts = [shown_part(word, part) for part in S[1]]
        return " and ".join(parts) if word == "both" else " or ".join(parts)
    if word == "not":
        return "not " + shown_part(word, S[1])
    if binds(S):
        name = S[1]
        return f"{word} {name}: " + shown(S[2])
    return word


def shown_part(word, part):
    text = shown(part)
    return f"({text})" if part[0] in IN_BRACKETS[word] else text


def shown_compare(word, F):
    sum_text = shown_form(F)
    sign = SIGNS[word]
    return f"{sum_text} {sign} 0"


def shown_form(F):
    text = ""
    for product, number in F:
        amount = shown_amount(product, abs(number))
        if text == "":
            text = f"-{amount}" if number < 0 else amount
        else:
            sign = "-" if number < 0 else "+"
            text = f"{text} {sign} {amount}"
    return text


def shown_amount(product, number):
    factors = [shown_power(name, power) for name, power in product]
    if number != 1 or product == ():
        factors.insert(0, str(number))
    return "*".join(factors)


def shown_power(name, power):
    return name if power == 1 else f"{name}^{power}"
