"""Classes of rows told by their unbroken shapes, what bars them, how many they are."""
