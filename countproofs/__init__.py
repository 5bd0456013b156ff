"""Sequent proofs of a logic that counts, line by line."""
