"""Soundlooks: a static analyser, for every program and every order of looking."""
