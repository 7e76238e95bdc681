"""Claims, and whether they hold (point 22)."""

from eachheight.certificates import certificate_holds
from eachheight.counterexamples import counterexample_holds
from eachheight.histories import is_history
from eachheight.layers import is_layer
from eachheight.runs import is_config, possible_configs, run_holds
from eachheight.specs import is_spec, is_tuple


def claim_holds(thing):
    """Return whether a value is a claim that holds."""
    if is_tuple(thing, 4):
        return _history_claim_holds(thing)
    return is_tuple(thing, 3) and _layer_claim_holds(thing)


def _history_claim_holds(thing):
    kind, spec, history, configs = thing
    if kind not in ("possible", "run") or not is_spec(spec) or not is_history(spec, history):
        return False
    if kind == "run":
        return run_holds(spec, history, configs)
    # Bools are equal to integers, so what is equal to configs need not consist of configs.
    if not isinstance(configs, tuple) or not all([is_config(spec, part) for part in configs]):
        return False
    return configs == possible_configs(spec, history)


def _layer_claim_holds(thing):
    kind, layer, found = thing
    if kind not in ("valid", "invalid") or not is_layer(layer):
        return False
    return certificate_holds(layer, found) if kind == "valid" else counterexample_holds(layer, found)
