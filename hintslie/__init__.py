"""Hintslie: what it costs not to know what comes, and what hints are worth that may lie."""
