"""Sourwright: a language whose values go sour."""
