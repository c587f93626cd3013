"""Askpaper: papers of questions, gone through by hand, by pages and in print."""
