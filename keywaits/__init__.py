"""Keywaits: key maps with waits."""
