package sip

// The sums here are of another make, so that a fault of this one can't be in
// both: openssl mac -macopt size:8 -macopt hexkey:KEY -in FILE SipHash, whose
// eight bytes are the sum, the lowest first.

// ofUp are the sums, by the key 0, 1, .., 15, of the bytes 0, 1, .., from
// none of them to 63.
var ofUp = []uint64{
	0x726fdb47dd0e0e31, 0x74f839c593dc67fd, 0x0d6c8009d9a94f5a, 0x85676696d7fb7e2d,
	0xcf2794e0277187b7, 0x18765564cd99a68d, 0xcbc9466e58fee3ce, 0xab0200f58b01d137,
	0x93f5f5799a932462, 0x9e0082df0ba9e4b0, 0x7a5dbbc594ddb9f3, 0xf4b32f46226bada7,
	0x751e8fbc860ee5fb, 0x14ea5627c0843d90, 0xf723ca908e7af2ee, 0xa129ca6149be45e5,
	0x3f2acc7f57c29bdb, 0x699ae9f52cbe4794, 0x4bc1b3f0968dd39c, 0xbb6dc91da77961bd,
	0xbed65cf21aa2ee98, 0xd0f2cbb02e3b67c7, 0x93536795e3a33e88, 0xa80c038ccd5ccec8,
	0xb8ad50c6f649af94, 0xbce192de8a85b8ea, 0x17d835b85bbb15f3, 0x2f2e6163076bcfad,
	0xde4daaaca71dc9a5, 0xa6a2506687956571, 0xad87a3535c49ef28, 0x32d892fad841c342,
	0x7127512f72f27cce, 0xa7f32346f95978e3, 0x12e0b01abb051238, 0x15e034d40fa197ae,
	0x314dffbe0815a3b4, 0x027990f029623981, 0xcadcd4e59ef40c4d, 0x9abfd8766a33735c,
	0x0e3ea96b5304a7d0, 0xad0c42d6fc585992, 0x187306c89bc215a9, 0xd4a60abcf3792b95,
	0xf935451de4f21df2, 0xa9538f0419755787, 0xdb9acddff56ca510, 0xd06c98cd5c0975eb,
	0xe612a3cb9ecba951, 0xc766e62cfcadaf96, 0xee64435a9752fe72, 0xa192d576b245165a,
	0x0a8787bf8ecb74b2, 0x81b3e73d20b49b6f, 0x7fa8220ba3b2ecea, 0x245731c13ca42499,
	0xb78dbfaf3a8d83bd, 0xea1ad565322a1a0b, 0x60e61c23a3795013, 0x6606d7e446282b93,
	0x6ca4ecb15c5f91e1, 0x9f626da15c9625f3, 0xe51b38608ef25f57, 0x958a324ceb064572,
}

// lengths are how many bytes the sums of byKeys are of.
var lengths = []int{0, 1, 2, 3, 4, 5, 6, 7, 8, 9, 15, 16, 17, 255, 256, 257}

// byKeys are keys and the sums by them, of mixed(n) for each n of lengths.
var byKeys = []struct {
	key  [16]byte
	sums []uint64
}{
	{[16]byte{0, 0, 0, 0, 0, 0, 0, 0, 0, 0, 0, 0, 0, 0, 0, 0}, []uint64{
		0x1e924b9d737700d7, 0x667dd5401e6fd800, 0x9b00636162dcce14, 0x4644579fc84dfb7a,
		0x51fe004e2781ad8d, 0x433db364508edd02, 0x2520065c64ad8f80, 0xaa53c1f363ed3bba,
		0x85d4e12981f79a9c, 0x19260af503d327b2, 0xc91f8fa0e6f592d2, 0x2f3c041c6509b0fe,
		0x2acc7494253471b0, 0xb067683fdee609bd, 0xfa9946c18aded585, 0x77b10e5aa9718f41,
	}},
	{[16]byte{0xff, 0xff, 0xff, 0xff, 0xff, 0xff, 0xff, 0xff, 0xff, 0xff, 0xff, 0xff, 0xff, 0xff, 0xff, 0xff}, []uint64{
		0x35dd279ee86ce565, 0x69275991c4fbe871, 0xe8d80196c78a0b15, 0x8c8448ce198361db,
		0x05a77bfdb16becd1, 0xb8b1a608de0cd094, 0x53f8345619cd96af, 0xe457fd77ee738873,
		0x248dcb02e20a7aa9, 0x5519f462505c6a29, 0x6356876331408b3e, 0x3984c6942688ccf8,
		0x70e0e5a0ccd7c8e6, 0x1a969840108d749b, 0x5d7cc3409c00c721, 0x1238fb6ee6a27bf8,
	}},
	{[16]byte{0xff, 0xff, 0xff, 0xff, 0xff, 0xff, 0xff, 0xff, 0, 0, 0, 0, 0, 0, 0, 0}, []uint64{
		0xa4e3fdab06a40925, 0x7bd0416c91601056, 0xcb3785acf8c92422, 0xea144a91f24f9a25,
		0xc96bca9e4dc189ea, 0x88561b241a06c807, 0x36f3880c6a55208c, 0x9312abbbda3e8eee,
		0x89e4c6b7c3636cde, 0x2ec6574a4d2f5ece, 0x74300875b593b4be, 0xcfa045a777cd9d1f,
		0xe95f7da606bd9746, 0x5e20bbcfaf5f08f5, 0xa553ccf0761a90d7, 0x297f61841b38c9d1,
	}},
	{[16]byte{0, 0, 0, 0, 0, 0, 0, 0, 0xff, 0xff, 0xff, 0xff, 0xff, 0xff, 0xff, 0xff}, []uint64{
		0x4d0617e48cf8737b, 0x4314a050fba2d216, 0x9e3d94339d830112, 0xe0f8bae68b7f00f1,
		0xf62a7b41010da7c5, 0xd51685271c3e7f73, 0xe52a89547e755dbd, 0x425922b177ce999d,
		0xcc75cdae555f9862, 0xb255d49bb00943e9, 0x3c5617e3d917d5a6, 0x9a78ce920534aa49,
		0x270683c549bbf063, 0xee5b8740d96e22ca, 0x897b7fc439b384d2, 0x0032734956dd2c8f,
	}},
	{[16]byte{1, 0, 0, 0, 0, 0, 0, 0, 0, 0, 0, 0, 0, 0, 0, 0}, []uint64{
		0x54e761ac4b1ca3de, 0xc3cb50e20eea31f4, 0x58629b247249ffc4, 0x84533ef4d5ead6dc,
		0xf2ee1be0c71cb766, 0x2c3f67c5db2899a0, 0xd17fb01ae85222f7, 0x8ddb41924528a25c,
		0xf4df989533a6e3fe, 0x9a97816414c9e77c, 0xda3c32052fc92890, 0x009cbbc1046cf447,
		0xb5ff88f9515cb8bf, 0x99e66ab5d4ec0cd7, 0x92d63145e8970147, 0xe7cfa30b1617514f,
	}},
	{[16]byte{0, 0, 0, 0, 0, 0, 0, 0x80, 0, 0, 0, 0, 0, 0, 0, 0}, []uint64{
		0x620f794693c9a5b9, 0xdc15e216f9d0c75b, 0xf4e430c93dca239f, 0x76b566d5bc9e51ad,
		0x3baa3994b0fe48ae, 0x00c2d9081b1dba4e, 0x4a322f408b176615, 0x2e6590fa3c8fa72e,
		0x93095aecb9b74b56, 0x8fb216731d0248d7, 0x73d91da571f8835a, 0x9acf13323da548a5,
		0x6445c8d724142e5e, 0x0e22ce4091a4e47b, 0x99357d0b4567d8cd, 0x9ea39aa976d9ee5e,
	}},
	{[16]byte{0, 0, 0, 0, 0, 0, 0, 0, 1, 0, 0, 0, 0, 0, 0, 0}, []uint64{
		0xc4235c5247d6521c, 0x43af4684336a7cf7, 0x2cc91db83b55d750, 0xb5511fc0136ac08d,
		0x87fa033058055917, 0x7fd37b24d023a7db, 0x2b7d14633132141d, 0x82421b542d250ebe,
		0x1b4310291a1b73fb, 0xee384f0e2bfcb047, 0xee9a272786026a5c, 0xc2adc0e187d89966,
		0xb659d4db1a1f3117, 0x38c8e376026803c8, 0x88c5a0fe46f78f5e, 0xa12e2dd9210c17bb,
	}},
	{[16]byte{0, 0, 0, 0, 0, 0, 0, 0, 0, 0, 0, 0, 0, 0, 0, 0x80}, []uint64{
		0x87f7600ac7c98ce8, 0x5195da5e6e03d5f6, 0x46b28accbab8034b, 0xe50e262dfbf8fa3a,
		0x64e883fb6acf1e07, 0x9ad2942fbf3c78b3, 0x8ec1019d928cce5c, 0xcee4cac2da346967,
		0x194dfffee549f66b, 0xcbb448995c1afefc, 0xac0107605c050d83, 0xab75993e3a2a2988,
		0xdc3cc03236b221ef, 0x2432a1b12d2fa073, 0xb6d59fb85094d0ec, 0x307ab94be0d42116,
	}},
	{[16]byte{0x0f, 0x0e, 0x0d, 0x0c, 0x0b, 0x0a, 9, 8, 7, 6, 5, 4, 3, 2, 1, 0}, []uint64{
		0x0b6607096da500ff, 0x43e1d5b9b475b4f7, 0xdf04cfcdfd9089ba, 0xcf7d869ec9163f17,
		0xff53ab169d88e90a, 0xc12e9a5f37d802c6, 0xfb547af5d82dc92b, 0x8102c5e157009fd8,
		0xb77930b2533dfee6, 0x657942c9e32ff870, 0xd44fdc08da9dd361, 0xbacd9d9363cc23fb,
		0xe639b2ab8db5e9ae, 0xb95e1022c620925b, 0x8ac4a51f430a436e, 0x2ca841371c4e7e6d,
	}},
	{[16]byte{0x5b, 2, 0xa9, 0x50, 0xf7, 0x9e, 0x45, 0xec, 0x93, 0x3a, 0xe1, 0x88, 0x2f, 0xd6, 0x7d, 0x24}, []uint64{
		0xeb1e837f19fceee4, 0xd6de6256dfd71715, 0xebd5fcfde6598784, 0x960fc356b1f9af94,
		0x76f6568d9348ceef, 0x607a9afd047bf625, 0x9761842b7185a1cc, 0x3022bafd21677e6a,
		0xa65e861be6176d55, 0xa535be948a73a4e3, 0x4a7b1a8f2ecc425f, 0xa76b12d593ead5dd,
		0x4eba01c77dba70ae, 0x17c6fb9771472912, 0xa35f76b78ff82e7c, 0x467b4bcc750f9373,
	}},
}

// ofMany are the sums, by otherKey, of mixed(n) for so many that their number
// goes round.
var ofMany = []struct {
	n   int
	sum uint64
}{
	{254, 0x5d35ab8758fdf07c},
	{263, 0x8e5e547a4cb73738},
	{264, 0xa9746e46761a9414},
	{511, 0x540290c1ee5d4761},
	{512, 0x7acac95507225c11},
	{513, 0xd3190bfd029b1c78},
	{1000, 0x877d4b622fee6e68},
	{4096, 0x16aa643b2417778c},
	{65535, 0xa450a74ed15bad42},
	{65536, 0x723f8c8ee9073f17},
	{65537, 0x9a69e55b70a72681},
	{1048576, 0x181d50a6e46245b2},
	{1048581, 0xd90256fce5806649},
	{16777475, 0xd400b256f982e898},
}

// ofOneByte are the sums of n noughts by a key of noughts, and of n times ff by
// a key of ff alone.
var ofOneByte = []struct {
	n            int
	noughts, ffs uint64
}{
	{0, 0x1e924b9d737700d7, 0x35dd279ee86ce565},
	{1, 0x8b5a0baa49fbc58d, 0xeb45304aebf4e114},
	{2, 0x3a6d9523170345d0, 0x8bbb9274a3c9c671},
	{3, 0xc76b19d07c9fe625, 0xea700247171fa6a7},
	{4, 0x7bf55e51b22b9698, 0x984597bafcb93581},
	{5, 0xfd5d54cb7ad1d0d8, 0x16ff0f0f08c990e6},
	{6, 0x56b2c92611e31c6a, 0x81428cc1d52efd99},
	{7, 0x85f896b6040a13ec, 0x7008818ecf918e11},
	{8, 0xe849e8bb6ffe2567, 0xf13e77491777f9d0},
	{9, 0x2d508cd20c8f0cef, 0x1b8d0792b6620321},
	{15, 0x97f21481e1333322, 0x5c8ba31dbb0d14c8},
	{16, 0x32caecc280172976, 0x1a27dd859ed29a2e},
	{17, 0x30fed5b17612e278, 0x5bcee02a61c29836},
	{255, 0x8b21238d5527793f, 0xb6da527cf0f604e3},
	{256, 0x80d978d6fa417c1e, 0xc1774ddffc4ff77e},
	{257, 0x2d0244227390b43d, 0xf4ba1291607478ee},
}
