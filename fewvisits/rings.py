"""Worlds in which the deals of a ring wait for one another."""

from fewvisits.errors import Impossible
from fewvisits.makers import chest
from fewvisits.patience import goes_one_way
from fewvisits.programs import Program
from fewvisits.scores import Score
from fewvisits.tears import played_world, single

MOST_ITEMS = 4


def putting(item):
    """The step that puts an item into its chest."""
    return (item // MOST_ITEMS, item % MOST_ITEMS)


def ring_program(many):
    """The program of the ring's world of so many deals."""
    sizes = [min(MOST_ITEMS, many - first) for first in range(0, many, MOST_ITEMS)]
    things = [(single(chest(size)), (site,)) for site, size in enumerate(sizes)]
    nexts = [(deal, (deal + 1) % many) for deal in range(many)]
    return Program(things, [[[putting(deal), putting(later)]] for deal, later in nexts], nexts)


def ring_script(many):
    """The script of the ring's world of so many deals."""
    score = Score()
    for deal in range(many):
        chest_site = putting(deal)[0]
        score.do(deal, (chest_site,), (chest_site,))
    for deal in range(many):
        chest_site = putting((deal + 1) % many)[0]
        score.see(deal, (chest_site,))
        score.told.append(("decide", deal, 1))
        score.bring(1)
    return tuple(score.told)


def ring_of(pairs):
    """The program and the script of the ring's world of a ring of pairs."""
    paper = goes_one_way(pairs)
    if paper:
        raise Impossible(paper)
    many = len(paper.deals)
    return (ring_program(many), ring_script(many))


def played_ring(pairs):
    """The ring's world of a ring of pairs, behind its script."""
    program, script = ring_of(pairs)
    return played_world(program, script)
