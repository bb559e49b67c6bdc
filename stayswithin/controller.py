"""Controllers: inputs for all states of a body, mixed from the inputs of its corners."""

from stayswithin.errors import Outside
from stayswithin.hulls import weights_of
from stayswithin.points import mixed


class Controller:
    """The controller of a body with an input for each corner."""

    def __init__(self, machine, points, inputs):
        self.machine = machine
        self.corners = list(points)
        self.chosen = list(inputs)

    def input_for(self, state):
        """Return the input for a state of the body."""
        weights = weights_of(self.corners, state)
        if weights is None:
            raise Outside()
        return mixed(weights, self.chosen)

    def run(self, state, disturbances):
        """Return a new list of the state and those that the disturbances lead to, one after another."""
        states = [state]
        for disturbance in disturbances:
            inputs = self.input_for(states[-1])
            states.append(self.machine.step(states[-1], inputs, disturbance))
        return states
