"""Cutless: derivations cleared of their detours."""
