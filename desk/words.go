package desk

import (
	"strconv"

	"rondeau/api"
)

// digits are those of hex strings; the first ten are those of numbers.
const digits = "0123456789abcdef"

// digit returns the number of a digit, of so many that there are.
func digit(b byte, many int) (int, bool) {
	for n := range many {
		if digits[n] == b {
			return n, true
		}
	}
	return 0, false
}

// readNumber returns the number of a word.
func readNumber(word string) (int, bool) {
	if word == "" || len(word) > 9 || len(word) > 1 && word[0] == '0' {
		return 0, false
	}
	number := 0
	for i := range len(word) {
		n, ok := digit(word[i], 10)
		if !ok {
			return 0, false
		}
		number = 10*number + n
	}
	return number, true
}

// readNumbers returns the numbers of words, of which there must be one.
func readNumbers(words []string) ([]int, bool) {
	var numbers []int
	for _, word := range words {
		n, ok := readNumber(word)
		if !ok {
			return nil, false
		}
		numbers = append(numbers, n)
	}
	return numbers, len(numbers) > 0
}

// readPicks returns the script of a word.
func readPicks(word string) ([]api.Entry, bool) {
	var script []api.Entry
	for i := range len(word) {
		n, ok := digit(word[i], 10)
		if !ok {
			return nil, false
		}
		script = append(script, api.Entry{Pick: n, Clock: uint64(i), Draw: uint64(i), Fire: i%2 == 1})
	}
	return script, len(script) > 0
}

// readHex returns the bytes of the one word that there must be.
func readHex(words []string) (string, bool) {
	if len(words) != 1 || words[0] == "" || len(words[0])%2 != 0 {
		return "", false
	}
	var text []byte
	for i := range len(words[0]) / 2 {
		high, ok1 := digit(words[0][2*i], 16)
		low, ok2 := digit(words[0][2*i+1], 16)
		if !ok1 || !ok2 {
			return "", false
		}
		text = append(text, byte(16*high+low))
	}
	return string(text), true
}

// hexOf returns bytes as a hex string.
func hexOf(text string) string {
	var word []byte
	for i := range len(text) {
		word = append(word, digits[text[i]/16], digits[text[i]%16])
	}
	return string(word)
}

// printed returns numbers as words.
func printed(numbers []int) []string {
	var words []string
	for _, n := range numbers {
		words = append(words, strconv.Itoa(n))
	}
	return words
}
