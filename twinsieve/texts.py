"""The texts of pipelines."""

from twinsieve.sieves import runs_of


def show_run(kind, count):
    """Return the text of a run of equal sieves."""
    if count == 1:
        return kind
    return kind + str(count)


def show_pipeline(pipeline):
    """Return the text of a valid pipeline."""
    if pipeline == "":
        return "none"
    return " ".join([show_run(kind, count) for kind, count in runs_of(pipeline)])
