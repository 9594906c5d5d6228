package engine

import "dromond/sha"

// The numbers of bytes that are permitted: of keys that sign, and of nonces.
const (
	shortestKey   = 1
	longestKey    = 64
	shortestNonce = 8
	longestNonce  = 16
)

// sealTag is the number of bytes of a tag of layer 8.
const sealTag = 16

// Size returns the number of bytes of the variant's tags, or 0 if there is no such variant.
func Size(variant int) int {
	if keySize(variant) != 0 {
		return sealTag
	}
	return sha.Size(codeSize(variant))
}

// codeSize returns the size of the codes that a variant signs with, as layer 6 calls it, or 0 if it does not sign.
func codeSize(variant int) int {
	switch variant {
	case 5:
		return 256
	case 6:
		return 384
	case 7:
		return 512
	}
	return 0
}

// keySize returns the number of bytes of the keys that a variant seals with, or 0 if it does not seal.
func keySize(variant int) int {
	switch variant {
	case 1:
		return 16
	case 3:
		return 32
	}
	return 0
}

// maySign reports whether the variant signs, with such a key.
func maySign(variant int, key string) bool {
	return codeSize(variant) != 0 && within(len(key), shortestKey, longestKey)
}

// maySeal reports whether the variant seals, with such a key and such a nonce.
func maySeal(variant int, key, nonce string) bool {
	size := keySize(variant)
	return size != 0 && len(key) == size && within(len(nonce), shortestNonce, longestNonce)
}

// within reports whether n is from least to most.
func within(n, least, most int) bool {
	return least <= n && n <= most
}
