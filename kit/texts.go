package kit

const textElf = `record elf {
  a: u32be is 2135247942;
  class: u8 is 2;
  order: u8 is 1;
  version: u8 is 1;
  none: bytes[9];
  type: u16le;
  machine: u16le;
  v: u32le is 1;
  entry: u64le;
  p: u64le offset segs;
  s: u64le offset secs;
  flags: u32le;
  h: u16le is 64;
  pe: u16le is 56;
  pn: u16le count segs;
  se: u16le is 64;
  sn: u16le count secs;
  names: u16le;
  segs: seg[pn] at p;
  secs: sec[sn] at s;
}
record seg {
  type: u32le;
  flags: u32le;
  offset0: u64le;
  vaddr: u64le;
  paddr: u64le;
  filesz: u64le;
  memsz: u64le;
  align0: u64le;
}
record sec {
  name: u32le;
  type: u32le;
  flags: u64le;
  addr: u64le;
  offset0: u64le;
  size0: u64le;
  link: u32le;
  info: u32le;
  align0: u64le;
  each: u64le;
}
`

const textPng = `record png {
  a: u32be is 2303741511;
  b: u32be is 218765834;
  chunks: chunk[];
}
record chunk {
  n: u32be size data;
  t: u32be;
  data: bytes[n];
  sum: u32be crc t data;
}
`

const textSfnt = `record font {
  kind: u32be;
  n: u16be count tables;
  a: u16be;
  b: u16be;
  c: u16be;
  tables: table[n];
}
record table {
  tag: u32be;
  sum: u32be;
  p: u32be offset data;
  len: u32be size data;
  data: bytes[len] at p;
}
`

const textWav = `record riff {
  a: u32be is 1380533830;
  n: u32le;
  form: u32be;
  chunks: part[];
}
record part {
  t: u32be;
  n: u32le size data;
  data: bytes[n];
  pad: bytes[n % 2];
}
`
