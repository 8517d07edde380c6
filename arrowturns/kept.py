"""Numbers that no turn changes: the sum of a form, and the step of each box."""

from arrowturns.forms import check_form, orders


def kept(form):
    check_form(form)
    return (determinant(form), [step(numbers) for numbers in form])


def determinant(form):
    boxes = list(range(len(form)))
    return sum([signed_product(form, order) for order in orders(boxes)])


def signed_product(form, order):
    product = 1
    for i in range(len(form)):
        product = product * form[i][order[i]]
    if is_odd(order):
        return -product
    return product


def is_odd(order):
    swapped = 0
    for j in range(len(order)):
        swapped = swapped + len([i for i in range(j) if order[i] > order[j]])
    return swapped % 2 == 1


# Nought is divided by every number: begun with it, the step of noughts alone is nought.
def step(numbers):
    told = 0
    for number in numbers:
        told = common_divisor(told, abs(number))
    return told


def common_divisor(number, other):
    divided = number
    divisor = other
    while divisor != 0:
        rest = divided % divisor
        divided = divisor
        divisor = rest
    return divided
