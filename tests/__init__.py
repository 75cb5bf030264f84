"""Tests of finitestructures, with plain second ways of telling what it tells."""
