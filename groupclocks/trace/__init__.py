"""A tracer, which records a run."""
