"""What all other parts of the package rest on: values, words, bars and floors."""
