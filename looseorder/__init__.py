"""Looseorder: what a tongue of endings and loose order lets a hearer tell."""
