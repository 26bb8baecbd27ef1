"""Wireyard: parts wired together, gone through beat by beat."""
