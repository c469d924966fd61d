"""Elders: the numbers that a number comes from, by a dict that tells for each one the list of its elders."""


def reach(elders, number):
    found = {number: True}
    waiting = [number]
    while waiting != []:
        younger = waiting.pop()
        for elder in elders[younger]:
            if elder not in found:
                found[elder] = True
                waiting.append(elder)
    return sorted(found)


def common(elders, one, other):
    ones = reach(elders, one)
    return sorted(set(ones) & set(reach(elders, other)))


# The elders of a common one are common too. So it is enough to ask whose elder one is: where a common one
# comes from another by whatever many steps, the last of these steps begins at a common one as well.
def bases(elders, one, other):
    both = common(elders, one, other)
    older = {}
    for number in both:
        for elder in elders[number]:
            older[elder] = True
    return [number for number in both if number not in older]
