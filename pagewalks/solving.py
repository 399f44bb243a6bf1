"""Equations in whole numbers, solved without a fraction on the way."""


def cleared(equation, chosen, place, before):
    # Each of these numbers is the pivot before times a determinant of the equations, so no rest is left.
    return [(chosen[place] * one - equation[place] * two) // before for one, two in zip(equation, chosen)]


def solved(equations):
    # An equation is a list of a factor for each unknown, then what they come to. It is not asked whether a pivot is 0:
    # handed in are equations of walks that leave every group of pages at last, and there none is.
    before = 1
    for place in range(len(equations)):
        chosen = equations[place]
        equations = [chosen if turn == place else cleared(each, chosen, place, before)
                     for turn, each in enumerate(equations)]
        before = chosen[place]
    return ([each[-1] for each in equations], before)
