"""The turns of a board in layers: in each one those that take as many single presses at least."""

from seatbuttons.errors import TooMany
from seatbuttons.searching import single_presses
from seatbuttons.unchecked import one_then, staying


def layers_up_to(board, deepest, most):
    """The list of the layers up to this index, lists of turns; TooMany if they have more turns in all."""
    presses = [turn for _, turn in single_presses(board)]
    layers = [[staying(board.size)]]
    met = {layers[0][0]}
    while len(layers) <= deepest and len(layers[-1]) > 0:
        latest, behind = layers[-1], []
        for here in latest:
            for press in presses:
                there = one_then(here, press)
                if there not in met:
                    met.add(there)
                    behind.append(there)
            if len(met) > most:
                raise TooMany(most)
        layers.append(behind)
    return [layer for layer in layers if len(layer) > 0]


def layer_of_each(layers):
    """The dict of the index of the layer of each turn."""
    return {turn: at for at, layer in enumerate(layers) for turn in layer}
