
import Derived.Test.YtgnbibinclepcaaGreatDoorZP0
set_option linter.unusedVariables false
namespace Go.Proofs.YtgnbibinclepcaaGreatDoor.Lf
open Go
variable {P : Program}
theorem t_Deferred_ofValue (f:Value) (args:Array Value):T P (Deferred.ofValue f args):=by
 unfold Deferred.ofValue;try dsimp only
 repeat' (first|with_reducible exact Tame.pureT|with_reducible apply Tame.bind|with_reducible apply t_stuck|with_reducible apply Tame.map|with_reducible apply t_forIn_array|with_reducible apply t_forIn_range|with_reducible apply t_forIn_list|with_reducible apply t_mapM|with_reducible apply t_mapM_list|with_reducible apply Tame.ite|intro _|split|exact True.intro|dsimp only)
theorem t_byteOf (a:Addr):T P (byteOf a):=by
 unfold byteOf;try dsimp only
 repeat' (first|with_reducible exact Tame.pureT|with_reducible apply Tame.bind|with_reducible apply t_noView|with_reducible apply t_program|with_reducible apply t_shape|with_reducible apply t_stuck|with_reducible apply Tame.map|with_reducible apply t_forIn_array|with_reducible apply t_forIn_range|with_reducible apply t_forIn_list|with_reducible apply t_mapM|with_reducible apply t_mapM_list|with_reducible apply Tame.ite|intro _|split|exact True.intro|dsimp only)
theorem t_partAt (base:Addr) (cells bytes:Nat):T P (partAt base cells bytes):=by
 unfold partAt;try dsimp only
 repeat' (first|with_reducible exact Tame.pureT|with_reducible apply Tame.bind|with_reducible apply t_byteOf|with_reducible apply Tame.map|with_reducible apply t_forIn_array|with_reducible apply t_forIn_range|with_reducible apply t_forIn_list|with_reducible apply t_mapM|with_reducible apply t_mapM_list|with_reducible apply Tame.ite|intro _|split|exact True.intro|dsimp only)
theorem t_fieldPlace (a:Addr) (f:Field):T P (fieldPlace a f):=by
 unfold fieldPlace;try dsimp only
 repeat' (first|with_reducible exact Tame.pureT|with_reducible apply Tame.bind|with_reducible apply t_partAt|with_reducible apply t_sizeOf|with_reducible apply Tame.map|with_reducible apply t_forIn_array|with_reducible apply t_forIn_range|with_reducible apply t_forIn_list|with_reducible apply t_mapM|with_reducible apply t_mapM_list|with_reducible apply Tame.ite|intro _|split|exact True.intro|dsimp only)
theorem t_variablesAt (a:Addr) (u:TypeId) (n:Nat):T P (variablesAt a u n):=by
 unfold variablesAt;try dsimp only
 repeat' (first|with_reducible exact Tame.pureT|with_reducible apply Tame.bind|with_reducible apply t_program|with_reducible apply t_shape|with_reducible apply Tame.map|with_reducible apply t_forIn_array|with_reducible apply t_forIn_range|with_reducible apply t_forIn_list|with_reducible apply t_mapM|with_reducible apply t_mapM_list|with_reducible apply Tame.ite|intro _|split|exact True.intro|dsimp only)
theorem t_loadBytes (a:Addr) (acc:ByteArray) (n:Nat):T P (loadBytes a acc n):=by
 induction n generalizing a acc with
 | zero=>trivial
 | succ n ih =>
  unfold loadBytes
  repeat' (first|with_reducible exact Tame.pureT|with_reducible apply Tame.bind|with_reducible apply t_load|with_reducible apply t_stuck|exact ih _ _|intro _|split)
theorem t_Op_intArith (op:BinOp) (k:IntKind) (x y:Int):T P (Op.intArith op k x y):=by
 unfold Op.intArith;try dsimp only
 repeat' (first|with_reducible exact Tame.pureT|with_reducible apply Tame.bind|with_reducible apply t_stuck|with_reducible apply Tame.map|with_reducible apply t_forIn_array|with_reducible apply t_forIn_range|with_reducible apply t_forIn_list|with_reducible apply t_mapM|with_reducible apply t_mapM_list|with_reducible apply Tame.ite|intro _|split|exact True.intro|dsimp only)
theorem t_Op_intDiv (op:BinOp) (k:IntKind) (x y:Int):T P (Op.intDiv op k x y):=by
 unfold Op.intDiv;try dsimp only
 repeat' (first|with_reducible exact Tame.pureT|with_reducible apply Tame.bind|with_reducible apply t_Op_Complex_quo|with_reducible apply t_runtimePanic|with_reducible apply t_stuck|with_reducible apply Tame.map|with_reducible apply t_forIn_array|with_reducible apply t_forIn_range|with_reducible apply t_forIn_list|with_reducible apply t_mapM|with_reducible apply t_mapM_list|with_reducible apply Tame.ite|intro _|split|exact True.intro|dsimp only)
theorem t_Op_intBits (op:BinOp) (k:IntKind) (x y:Int):T P (Op.intBits op k x y):=by
 unfold Op.intBits;try dsimp only
 repeat' (first|with_reducible exact Tame.pureT|with_reducible apply Tame.bind|with_reducible apply t_stuck|with_reducible apply Tame.map|with_reducible apply t_forIn_array|with_reducible apply t_forIn_range|with_reducible apply t_forIn_list|with_reducible apply t_mapM|with_reducible apply t_mapM_list|with_reducible apply Tame.ite|intro _|split|exact True.intro|dsimp only)
theorem t_Op_shift (op:BinOp) (k:IntKind) (x:Int) (_yk:IntKind) (y:Int):T P (Op.shift op k x _yk y):=by
 unfold Op.shift;try dsimp only
 repeat' (first|with_reducible exact Tame.pureT|with_reducible apply Tame.bind|with_reducible apply t_runtimePanic|with_reducible apply t_stuck|with_reducible apply Tame.map|with_reducible apply t_forIn_array|with_reducible apply t_forIn_range|with_reducible apply t_forIn_list|with_reducible apply t_mapM|with_reducible apply t_mapM_list|with_reducible apply Tame.ite|intro _|split|exact True.intro|dsimp only)
theorem t_Op_intCmp (op:BinOp) (x y:Int):T P (Op.intCmp op x y):=by
 unfold Op.intCmp;try dsimp only
 repeat' (first|with_reducible exact Tame.pureT|with_reducible apply Tame.bind|with_reducible apply t_stuck|with_reducible apply Tame.map|with_reducible apply t_forIn_array|with_reducible apply t_forIn_range|with_reducible apply t_forIn_list|with_reducible apply t_mapM|with_reducible apply t_mapM_list|with_reducible apply Tame.ite|intro _|split|exact True.intro|dsimp only)
theorem t_Op_floatArith (op:BinOp) (k:FloatKind) (x y:Nat):T P (Op.floatArith op k x y):=by
 unfold Op.floatArith;try dsimp only
 repeat' (first|with_reducible exact Tame.pureT|with_reducible apply Tame.bind|with_reducible apply t_Op_Complex_quo|with_reducible apply t_choose|with_reducible apply t_stuck|with_reducible apply Tame.map|with_reducible apply t_forIn_array|with_reducible apply t_forIn_range|with_reducible apply t_forIn_list|with_reducible apply t_mapM|with_reducible apply t_mapM_list|with_reducible apply Tame.ite|intro _|split|exact True.intro|dsimp only)
theorem t_Op_floatCmp (op:BinOp) (k:FloatKind) (x y:Nat):T P (Op.floatCmp op k x y):=by
 unfold Op.floatCmp;try dsimp only
 repeat' (first|with_reducible exact Tame.pureT|with_reducible apply Tame.bind|with_reducible apply t_stuck|with_reducible apply Tame.map|with_reducible apply t_forIn_array|with_reducible apply t_forIn_range|with_reducible apply t_forIn_list|with_reducible apply t_mapM|with_reducible apply t_mapM_list|with_reducible apply Tame.ite|intro _|split|exact True.intro|dsimp only)
theorem t_Conv_floatToFloat (src:FloatKind) (bits:Nat) (dst:FloatKind):T P (Conv.floatToFloat src bits dst):=by
 unfold Conv.floatToFloat;try dsimp only
 repeat' (first|with_reducible exact Tame.pureT|with_reducible apply Tame.bind|with_reducible apply t_choose|with_reducible apply Tame.map|with_reducible apply t_forIn_array|with_reducible apply t_forIn_range|with_reducible apply t_forIn_list|with_reducible apply t_mapM|with_reducible apply t_mapM_list|with_reducible apply Tame.ite|intro _|split|exact True.intro|dsimp only)
theorem t_Op_Complex_arith (op:BinOp) (k:FloatKind) (x y:Nat):T P (Op.Complex.arith op k x y):=by
 unfold Op.Complex.arith;try dsimp only
 repeat' (first|with_reducible exact Tame.pureT|with_reducible apply Tame.bind|with_reducible apply t_Op_floatArith|with_reducible apply t_stuck|with_reducible apply Tame.map|with_reducible apply t_forIn_array|with_reducible apply t_forIn_range|with_reducible apply t_forIn_list|with_reducible apply t_mapM|with_reducible apply t_mapM_list|with_reducible apply Tame.ite|intro _|split|exact True.intro|dsimp only)
theorem t_Op_Complex_cmp (op:BinOp) (k:FloatKind) (x y:Nat):T P (Op.Complex.cmp op k x y):=by
 unfold Op.Complex.cmp;try dsimp only
 repeat' (first|with_reducible exact Tame.pureT|with_reducible apply Tame.bind|with_reducible apply t_Op_floatCmp|with_reducible apply t_asBool|with_reducible apply Tame.map|with_reducible apply t_forIn_array|with_reducible apply t_forIn_range|with_reducible apply t_forIn_list|with_reducible apply t_mapM|with_reducible apply t_mapM_list|with_reducible apply Tame.ite|intro _|split|exact True.intro|dsimp only)
theorem t_Op_Complex_conv (src:FloatKind) (x:Nat) (dst:FloatKind):T P (Op.Complex.conv src x dst):=by
 unfold Op.Complex.conv;try dsimp only
 repeat' (first|with_reducible exact Tame.pureT|with_reducible apply Tame.bind|with_reducible apply t_Conv_floatToFloat|with_reducible apply t_stuck|with_reducible apply Tame.map|with_reducible apply t_forIn_array|with_reducible apply t_forIn_range|with_reducible apply t_forIn_list|with_reducible apply t_mapM|with_reducible apply t_mapM_list|with_reducible apply Tame.ite|intro _|split|exact True.intro|dsimp only)
theorem t_Op_Complex_add (x y:Nat):T P (Op.Complex.add x y):=t_Op_Complex_arith _ _ _ _
theorem t_Op_Complex_sub (x y:Nat):T P (Op.Complex.sub x y):=t_Op_Complex_arith _ _ _ _
theorem t_Op_Complex_mul (x y:Nat):T P (Op.Complex.mul x y):=t_Op_Complex_arith _ _ _ _
theorem t_Op_Complex_quo (x y:Nat):T P (Op.Complex.quo x y):=t_Op_Complex_arith _ _ _ _
theorem t_Op_Complex_product (a b c d:Nat):T P (Op.Complex.product a b c d):=by
 unfold Op.Complex.product
 repeat' (first|with_reducible exact Tame.pureT|with_reducible apply Tame.bind|with_reducible apply t_Op_Complex_add|with_reducible apply t_Op_Complex_sub|with_reducible apply t_Op_Complex_mul|with_reducible apply Tame.map|with_reducible apply t_forIn_array|with_reducible apply t_forIn_range|with_reducible apply t_forIn_list|with_reducible apply t_mapM|with_reducible apply t_mapM_list|with_reducible apply Tame.ite|intro _|split|exact True.intro|dsimp only)
theorem t_Op_Complex_corrected (scale a b c d:Nat):T P (Op.Complex.corrected scale a b c d):=by
 unfold Op.Complex.corrected;try dsimp only
 repeat' (first|with_reducible exact Tame.pureT|with_reducible apply Tame.bind|with_reducible apply t_Op_Complex_add|with_reducible apply t_Op_Complex_mul|with_reducible apply t_Op_Complex_sub|with_reducible apply Tame.map|with_reducible apply t_forIn_array|with_reducible apply t_forIn_range|with_reducible apply t_forIn_list|with_reducible apply t_mapM|with_reducible apply t_mapM_list|with_reducible apply Tame.ite|intro _|split|exact True.intro|dsimp only)
theorem t_Op_Complex_quotient (a b c d:Nat):T P (Op.Complex.quotient a b c d):=by
 unfold Op.Complex.quotient;try dsimp only
 repeat' (first|with_reducible exact Tame.pureT|with_reducible apply Tame.bind|with_reducible apply t_Op_Complex_add|with_reducible apply t_Op_Complex_cmp|with_reducible apply t_Op_Complex_corrected|with_reducible apply t_Op_Complex_mul|with_reducible apply t_Op_Complex_quo|with_reducible apply t_Op_Complex_sub|with_reducible apply Tame.map|with_reducible apply t_forIn_array|with_reducible apply t_forIn_range|with_reducible apply t_forIn_list|with_reducible apply t_mapM|with_reducible apply t_mapM_list|with_reducible apply Tame.ite|intro _|split|exact True.intro|dsimp only)
theorem t_Op_complexOp (op:BinOp) (k:FloatKind) (xr xi yr yi:Nat):T P (Op.complexOp op k xr xi yr yi):=by
 unfold Op.complexOp;try dsimp only
 repeat' (first|with_reducible exact Tame.pureT|with_reducible apply Tame.bind|with_reducible apply t_Op_Complex_add|with_reducible apply t_Op_Complex_arith|with_reducible apply t_Op_Complex_cmp|with_reducible apply t_Op_Complex_conv|with_reducible apply t_Op_Complex_mul|with_reducible apply t_Op_Complex_product|with_reducible apply t_Op_Complex_quo|with_reducible apply t_Op_Complex_quotient|with_reducible apply t_Op_Complex_sub|with_reducible apply t_stuck|with_reducible apply Tame.map|with_reducible apply t_forIn_array|with_reducible apply t_forIn_range|with_reducible apply t_forIn_list|with_reducible apply t_mapM|with_reducible apply t_mapM_list|with_reducible apply Tame.ite|intro _|split|exact True.intro|dsimp only)
theorem t_Op_stringOp (op:BinOp) (x y:ByteArray):T P (Op.stringOp op x y):=by
 unfold Op.stringOp;try dsimp only
 repeat' (first|with_reducible exact Tame.pureT|with_reducible apply Tame.bind|with_reducible apply t_Op_Complex_add|with_reducible apply t_stuck|with_reducible apply t_unsupported|with_reducible apply Tame.map|with_reducible apply t_forIn_array|with_reducible apply t_forIn_range|with_reducible apply t_forIn_list|with_reducible apply t_mapM|with_reducible apply t_mapM_list|with_reducible apply Tame.ite|intro _|split|exact True.intro|dsimp only)
theorem t_Op_equalIn (d:Nat) (t:TypeId) (x y:Value):T P (Op.equalIn d t x y):=by
 induction d generalizing t x y with
 | zero=>trivial
 | succ d ih =>
  unfold Op.equalIn;try dsimp only
  repeat' (first|with_reducible exact Tame.pureT|with_reducible apply Tame.bind|with_reducible apply t_underlying|with_reducible apply t_typeInfo|with_reducible apply t_typeStr|with_reducible apply t_sizeOf|with_reducible apply t_part|with_reducible apply t_program|with_reducible apply t_stuck|with_reducible apply t_unsupported|with_reducible apply t_runtimePanic|with_reducible apply t_behindNumber|with_reducible apply t_byteOf|with_reducible apply t_sameAddr|with_reducible apply t_samePointer|with_reducible apply t_choose|with_reducible apply Tame.map|with_reducible apply t_forIn_array|with_reducible apply t_forIn_range|with_reducible apply t_forIn_list|with_reducible apply t_mapM|with_reducible apply t_mapM_list|with_reducible apply Tame.ite|exact ih _ _ _|with_reducible apply t_forIn_array|with_reducible apply t_forIn_range|intro _|split|exact True.intro|dsimp only)
theorem t_Op_equal (t:TypeId) (x y:Value):T P (Op.equal t x y):=by
 unfold Op.equal;try dsimp only
 repeat' (first|with_reducible exact Tame.pureT|with_reducible apply Tame.bind|with_reducible apply t_Op_equalIn|with_reducible apply Tame.map|with_reducible apply t_forIn_array|with_reducible apply t_forIn_range|with_reducible apply t_forIn_list|with_reducible apply t_mapM|with_reducible apply t_mapM_list|with_reducible apply Tame.ite|intro _|split|exact True.intro|dsimp only)
theorem t_Op_eqGuardIn (d:Nat) (t:TypeId) (x y:Value):T P (Op.eqGuardIn d t x y):=by
 induction d generalizing t x y with
 | zero=>trivial
 | succ d ih =>
  unfold Op.eqGuardIn;try dsimp only
  repeat' (first|with_reducible exact Tame.pureT|with_reducible apply Tame.bind|with_reducible apply t_underlying|with_reducible apply t_typeInfo|with_reducible apply t_typeStr|with_reducible apply t_sizeOf|with_reducible apply t_part|with_reducible apply t_program|with_reducible apply t_stuck|with_reducible apply t_unsupported|with_reducible apply t_runtimePanic|with_reducible apply t_behindNumber|with_reducible apply t_byteOf|with_reducible apply t_sameAddr|with_reducible apply t_samePointer|with_reducible apply t_choose|with_reducible apply Tame.map|with_reducible apply t_forIn_array|with_reducible apply t_forIn_range|with_reducible apply t_forIn_list|with_reducible apply t_mapM|with_reducible apply t_mapM_list|with_reducible apply Tame.ite|exact ih _ _ _|with_reducible apply t_forIn_array|with_reducible apply t_forIn_range|intro _|split|exact True.intro|dsimp only)
theorem t_Op_twoPlaces (a b:Addr):T P (Op.twoPlaces a b):=by
 unfold Op.twoPlaces;try dsimp only
 repeat' (first|with_reducible exact Tame.pureT|with_reducible apply Tame.bind|with_reducible apply t_byteOf|with_reducible apply t_program|with_reducible apply t_unsupported|with_reducible apply Tame.map|with_reducible apply t_forIn_array|with_reducible apply t_forIn_range|with_reducible apply t_forIn_list|with_reducible apply t_mapM|with_reducible apply t_mapM_list|with_reducible apply Tame.ite|intro _|split|exact True.intro|dsimp only)
theorem t_Op_addrSub (k:IntKind) (a b:Addr):T P (Op.addrSub k a b):=by
 unfold Op.addrSub;try dsimp only
 repeat' (first|with_reducible exact Tame.pureT|with_reducible apply Tame.bind|with_reducible apply t_Op_twoPlaces|with_reducible apply Tame.map|with_reducible apply t_forIn_array|with_reducible apply t_forIn_range|with_reducible apply t_forIn_list|with_reducible apply t_mapM|with_reducible apply t_mapM_list|with_reducible apply Tame.ite|intro _|split|exact True.intro|dsimp only)
theorem t_Op_addrCmp (op:BinOp) (a b:Addr):T P (Op.addrCmp op a b):=by
 unfold Op.addrCmp;try dsimp only
 repeat' (first|with_reducible exact Tame.pureT|with_reducible apply Tame.bind|with_reducible apply t_Op_twoPlaces|with_reducible apply t_unsupported|with_reducible apply Tame.map|with_reducible apply t_forIn_array|with_reducible apply t_forIn_range|with_reducible apply t_forIn_list|with_reducible apply t_mapM|with_reducible apply t_mapM_list|with_reducible apply Tame.ite|intro _|split|exact True.intro|dsimp only)
theorem t_Op_addrMod (k:IntKind) (a:Addr) (n:Int):T P (Op.addrMod k a n):=by
 unfold Op.addrMod;try dsimp only
 repeat' (first|with_reducible exact Tame.pureT|with_reducible apply Tame.bind|with_reducible apply t_byteOf|with_reducible apply t_shape|with_reducible apply t_typeInfo|with_reducible apply t_unsupported|with_reducible apply Tame.map|with_reducible apply t_forIn_array|with_reducible apply t_forIn_range|with_reducible apply t_forIn_list|with_reducible apply t_mapM|with_reducible apply t_mapM_list|with_reducible apply Tame.ite|intro _|split|exact True.intro|dsimp only)
theorem t_Op_unary (op:UnOp) (x:Value):T P (Op.unary op x):=by
 unfold Op.unary;try dsimp only
 repeat' (first|with_reducible exact Tame.pureT|with_reducible apply Tame.bind|with_reducible apply t_Op_Complex_sub|with_reducible apply t_Op_intArith|with_reducible apply t_Op_intBits|with_reducible apply t_stuck|with_reducible apply t_unsupported|with_reducible apply Tame.map|with_reducible apply t_forIn_array|with_reducible apply t_forIn_range|with_reducible apply t_forIn_list|with_reducible apply t_mapM|with_reducible apply t_mapM_list|with_reducible apply Tame.ite|intro _|split|exact True.intro|dsimp only)
theorem t_Conv_intToInt (dst:IntKind) (n:Int):T P (Conv.intToInt dst n):=by
 unfold Conv.intToInt;try dsimp only
 repeat' (first|with_reducible exact Tame.pureT|with_reducible apply Tame.bind|with_reducible apply Tame.map|with_reducible apply t_forIn_array|with_reducible apply t_forIn_range|with_reducible apply t_forIn_list|with_reducible apply t_mapM|with_reducible apply t_mapM_list|with_reducible apply Tame.ite|intro _|split|exact True.intro|dsimp only)
theorem t_Conv_intToFloat (dst:FloatKind) (n:Int):T P (Conv.intToFloat dst n):=by
 unfold Conv.intToFloat;try dsimp only
 repeat' (first|with_reducible exact Tame.pureT|with_reducible apply Tame.bind|with_reducible apply Tame.map|with_reducible apply t_forIn_array|with_reducible apply t_forIn_range|with_reducible apply t_forIn_list|with_reducible apply t_mapM|with_reducible apply t_mapM_list|with_reducible apply Tame.ite|intro _|split|exact True.intro|dsimp only)
theorem t_Conv_floatToInt (src:FloatKind) (bits:Nat) (dst:IntKind):T P (Conv.floatToInt src bits dst):=by
 unfold Conv.floatToInt;try dsimp only
 repeat' (first|with_reducible exact Tame.pureT|with_reducible apply Tame.bind|with_reducible apply t_choose|with_reducible apply Tame.map|with_reducible apply t_forIn_array|with_reducible apply t_forIn_range|with_reducible apply t_forIn_list|with_reducible apply t_mapM|with_reducible apply t_mapM_list|with_reducible apply Tame.ite|intro _|split|exact True.intro|dsimp only)
theorem t_Conv_complexToComplex (src:FloatKind) (re im:Nat) (dst:FloatKind):T P (Conv.complexToComplex src re im dst):=by
 unfold Conv.complexToComplex;try dsimp only
 repeat' (first|with_reducible exact Tame.pureT|with_reducible apply Tame.bind|with_reducible apply t_Conv_floatToFloat|with_reducible apply t_stuck|with_reducible apply Tame.map|with_reducible apply t_forIn_array|with_reducible apply t_forIn_range|with_reducible apply t_forIn_list|with_reducible apply t_mapM|with_reducible apply t_mapM_list|with_reducible apply Tame.ite|intro _|split|exact True.intro|dsimp only)
theorem t_Conv_intToString (n:Int):T P (Conv.intToString n):=by
 unfold Conv.intToString;try dsimp only
 repeat' (first|with_reducible exact Tame.pureT|with_reducible apply Tame.bind|with_reducible apply Tame.map|with_reducible apply t_forIn_array|with_reducible apply t_forIn_range|with_reducible apply t_forIn_list|with_reducible apply t_mapM|with_reducible apply t_mapM_list|with_reducible apply Tame.ite|intro _|split|exact True.intro|dsimp only)
theorem t_Conv_stringToBytes (elem:TypeId) (s:ByteArray):T P (Conv.stringToBytes elem s):=by
 unfold Conv.stringToBytes;try dsimp only
 repeat' (first|with_reducible exact Tame.pureT|with_reducible apply Tame.bind|with_reducible apply t_choose|with_reducible apply t_markStringish|with_reducible apply t_newRow|with_reducible apply Tame.map|with_reducible apply t_forIn_array|with_reducible apply t_forIn_range|with_reducible apply t_forIn_list|with_reducible apply t_mapM|with_reducible apply t_mapM_list|with_reducible apply Tame.ite|intro _|split|exact True.intro|dsimp only)
theorem t_Conv_bytesToString (x:Value):T P (Conv.bytesToString x):=by
 unfold Conv.bytesToString;try dsimp only
 repeat' (first|with_reducible exact Tame.pureT|with_reducible apply Tame.bind|with_reducible apply t_loadCells|with_reducible apply t_stuck|with_reducible apply Tame.map|with_reducible apply t_forIn_array|with_reducible apply t_forIn_range|with_reducible apply t_forIn_list|with_reducible apply t_mapM|with_reducible apply t_mapM_list|with_reducible apply Tame.ite|intro _|split|exact True.intro|dsimp only)
theorem t_Conv_stringToRunes (elem:TypeId) (s:ByteArray):T P (Conv.stringToRunes elem s):=by
 unfold Conv.stringToRunes;try dsimp only
 repeat' (first|with_reducible exact Tame.pureT|with_reducible apply Tame.bind|with_reducible apply t_choose|with_reducible apply t_newRow|with_reducible apply Tame.map|with_reducible apply t_forIn_array|with_reducible apply t_forIn_range|with_reducible apply t_forIn_list|with_reducible apply t_mapM|with_reducible apply t_mapM_list|with_reducible apply Tame.ite|intro _|split|exact True.intro|dsimp only)
theorem t_Conv_runesToString (x:Value):T P (Conv.runesToString x):=by
 unfold Conv.runesToString;try dsimp only
 repeat' (first|with_reducible exact Tame.pureT|with_reducible apply Tame.bind|with_reducible apply t_loadCells|with_reducible apply t_stuck|with_reducible apply Tame.map|with_reducible apply t_forIn_array|with_reducible apply t_forIn_range|with_reducible apply t_forIn_list|with_reducible apply t_mapM|with_reducible apply t_mapM_list|with_reducible apply Tame.ite|intro _|split|exact True.intro|dsimp only)
theorem t_Conv_seenAt (a:Addr):T P (Conv.seenAt a):=by
 unfold Conv.seenAt;try dsimp only
 repeat' (first|with_reducible exact Tame.pureT|with_reducible apply Tame.bind|with_reducible apply t_program|with_reducible apply t_shape|with_reducible apply t_unsupported|with_reducible apply t_viewAt|with_reducible apply Tame.map|with_reducible apply t_forIn_array|with_reducible apply t_forIn_range|with_reducible apply t_forIn_list|with_reducible apply t_mapM|with_reducible apply t_mapM_list|with_reducible apply Tame.ite|intro _|split|exact True.intro|dsimp only)
theorem t_Conv_unsafePointer (src dst:TypeId) (x:Value):T P (Conv.unsafePointer src dst x):=by
 unfold Conv.unsafePointer;try dsimp only
 repeat' (first|with_reducible exact Tame.pureT|with_reducible apply Tame.bind|with_reducible apply t_Conv_seenAt|with_reducible apply t_asNumber|with_reducible apply t_cellsIn|with_reducible apply t_new|with_reducible apply t_program|with_reducible apply t_shape|with_reducible apply t_sizeOf|with_reducible apply t_stuck|with_reducible apply t_underlying|with_reducible apply t_unsupported|with_reducible apply t_variablesAt|with_reducible apply Tame.map|with_reducible apply t_forIn_array|with_reducible apply t_forIn_range|with_reducible apply t_forIn_list|with_reducible apply t_mapM|with_reducible apply t_mapM_list|with_reducible apply Tame.ite|intro _|split|exact True.intro|dsimp only)
theorem t_Builtin_holdsCells (a:Addr) (cells:Nat):T P (Builtin.holdsCells a cells):=by
 unfold Builtin.holdsCells;try dsimp only
 repeat' (first|with_reducible exact Tame.pureT|with_reducible apply Tame.bind|with_reducible apply t_shape|with_reducible apply Tame.map|with_reducible apply t_forIn_array|with_reducible apply t_forIn_range|with_reducible apply t_forIn_list|with_reducible apply t_mapM|with_reducible apply t_mapM_list|with_reducible apply Tame.ite|intro _|split|exact True.intro|dsimp only)
theorem t_Builtin_mayShare (size sLen n:Nat) (base:Option Addr) (x:Value):T P (Builtin.mayShare size sLen n base x):=by
 unfold Builtin.mayShare;try dsimp only
 repeat' (first|with_reducible exact Tame.pureT|with_reducible apply Tame.bind|with_reducible apply t_Builtin_holdsCells|with_reducible apply t_Op_Complex_add|with_reducible apply t_frozen|with_reducible apply Tame.map|with_reducible apply t_forIn_array|with_reducible apply t_forIn_range|with_reducible apply t_forIn_list|with_reducible apply t_mapM|with_reducible apply t_mapM_list|with_reducible apply Tame.ite|intro _|split|exact True.intro|dsimp only)
theorem t_Builtin_lenOf:∀ x0,T P (Builtin.lenOf x0):=by
 intro x0;unfold Builtin.lenOf;try dsimp only
 repeat' (first|with_reducible exact Tame.pureT|with_reducible apply Tame.bind|with_reducible apply t_stuck|with_reducible apply Tame.map|with_reducible apply t_forIn_array|with_reducible apply t_forIn_range|with_reducible apply t_forIn_list|with_reducible apply t_mapM|with_reducible apply t_mapM_list|with_reducible apply Tame.ite|intro _|split|exact True.intro|dsimp only)
theorem t_Builtin_firstCells (size n:Nat):∀ x0,T P (Builtin.firstCells size n x0):=by
 intro x0;unfold Builtin.firstCells;try dsimp only
 repeat' (first|with_reducible exact Tame.pureT|with_reducible apply Tame.bind|with_reducible apply t_loadCells|with_reducible apply t_stuck|with_reducible apply Tame.map|with_reducible apply t_forIn_array|with_reducible apply t_forIn_range|with_reducible apply t_forIn_list|with_reducible apply t_mapM|with_reducible apply t_mapM_list|with_reducible apply Tame.ite|intro _|split|exact True.intro|dsimp only)
set_option maxHeartbeats 4000000 in
theorem t_Builtin_append_ (argTypes:Array TypeId) (_type:TypeId) (args:Array Value):T P (Builtin.append_ argTypes _type args):=by
 unfold Builtin.append_;try dsimp only
 repeat' (first|with_reducible exact Tame.pureT|with_reducible apply Tame.bind|with_reducible apply t_Builtin_firstCells|with_reducible apply t_Builtin_lenOf|with_reducible apply t_Builtin_mayShare|with_reducible apply t_Op_Complex_add|with_reducible apply t_asInt|with_reducible apply t_askRoom|with_reducible apply t_choose|with_reducible apply t_newRow|with_reducible apply t_noRoom|with_reducible apply t_runtimePanic|with_reducible apply t_sizeOf|with_reducible apply t_storeCells|with_reducible apply t_stuck|with_reducible apply t_typeInfo|with_reducible apply t_underlying|with_reducible apply t_unsupported|with_reducible apply t_zeroValue|with_reducible apply Tame.map|with_reducible apply t_forIn_array|with_reducible apply t_forIn_range|with_reducible apply t_forIn_list|with_reducible apply t_mapM|with_reducible apply t_mapM_list|with_reducible apply Tame.ite|intro _|split|exact True.intro|dsimp only)
theorem t_Builtin_cap_ (argTypes:Array TypeId) (_type:TypeId) (args:Array Value):T P (Builtin.cap_ argTypes _type args):=by
 unfold Builtin.cap_;try dsimp only
 repeat' (first|with_reducible exact Tame.pureT|with_reducible apply Tame.bind|with_reducible apply t_getObj|with_reducible apply t_stuck|with_reducible apply t_underlying|with_reducible apply Tame.map|with_reducible apply t_forIn_array|with_reducible apply t_forIn_range|with_reducible apply t_forIn_list|with_reducible apply t_mapM|with_reducible apply t_mapM_list|with_reducible apply Tame.ite|intro _|split|exact True.intro|dsimp only)
theorem t_Builtin_clear_ (argTypes:Array TypeId) (_type:TypeId) (args:Array Value):T P (Builtin.clear_ argTypes _type args):=by
 unfold Builtin.clear_;try dsimp only
 repeat' (first|with_reducible exact Tame.pureT|with_reducible apply Tame.bind|with_reducible apply t_getObj|with_reducible apply t_setObj|with_reducible apply t_storeCells|with_reducible apply t_stuck|with_reducible apply t_underlying|with_reducible apply t_zeroValue|with_reducible apply Tame.map|with_reducible apply t_forIn_array|with_reducible apply t_forIn_range|with_reducible apply t_forIn_list|with_reducible apply t_mapM|with_reducible apply t_mapM_list|with_reducible apply Tame.ite|intro _|split|exact True.intro|dsimp only)
theorem t_Builtin_close_ (t:Array TypeId) (u:TypeId) (args:Array Value):T P (Builtin.close_ t u args):=by
 unfold Builtin.close_
 rcases args with ⟨_|⟨a,_|⟨b,_|⟨c,l⟩⟩⟩⟩
 ·trivial
 ·cases a <;> first|trivial|skip
  rename_i r
  cases r
  ·exact t_runtimePanic _
  ·refine Tame.bind (t_getObj _) fun _=>?_
   repeat' (first|with_reducible exact Tame.pureT|with_reducible apply Tame.bind|with_reducible apply t_runtimePanic|with_reducible apply t_stuck|with_reducible apply t_unsupported|with_reducible apply t_getObj|with_reducible apply t_setObj|with_reducible apply t_viewAt|with_reducible apply t_new|with_reducible apply t_elemOf|with_reducible apply t_typeInfo|with_reducible apply t_sizeOf|with_reducible apply t_asInt|with_reducible apply t_choose|with_reducible apply t_underlying|with_reducible apply t_program|with_reducible apply t_shape|with_reducible apply t_variablesAt|with_reducible apply t_loadBytes|with_reducible apply t_freeze|with_reducible apply t_newRow|with_reducible apply t_markStringish|with_reducible apply Tame.map|with_reducible apply t_forIn_array|with_reducible apply t_forIn_range|with_reducible apply t_forIn_list|with_reducible apply t_mapM|with_reducible apply t_mapM_list|with_reducible apply Tame.ite|intro _|split|exact True.intro|dsimp only)
 ·trivial
 ·trivial
theorem t_Builtin_complex_ (t:Array TypeId) (u:TypeId) (args:Array Value):T P (Builtin.complex_ t u args):=by
 unfold Builtin.complex_
 rcases args with ⟨_|⟨a,_|⟨b,_|⟨c,l⟩⟩⟩⟩
 ·trivial
 ·cases a <;> trivial
 ·cases a <;> cases b <;> first|trivial|skip
  refine Tame.ite ?_ ?_ <;> trivial
 ·cases a <;> cases b <;> trivial
theorem t_Builtin_copy_ (argTypes:Array TypeId) (_type:TypeId) (args:Array Value):T P (Builtin.copy_ argTypes _type args):=by
 unfold Builtin.copy_;try dsimp only
 repeat' (first|with_reducible exact Tame.pureT|with_reducible apply Tame.bind|with_reducible apply t_Builtin_firstCells|with_reducible apply t_Builtin_lenOf|with_reducible apply t_sizeOf|with_reducible apply t_storeCells|with_reducible apply t_stuck|with_reducible apply t_underlying|with_reducible apply Tame.map|with_reducible apply t_forIn_array|with_reducible apply t_forIn_range|with_reducible apply t_forIn_list|with_reducible apply t_mapM|with_reducible apply t_mapM_list|with_reducible apply Tame.ite|intro _|split|exact True.intro|dsimp only)
theorem t_Instr_checkKey (e:Bool) (d:Nat) (t:TypeId) (x:Value):T P (Instr.checkKey e d t x):=by
 induction d generalizing t x with
 | zero=>trivial
 | succ d ih =>
  unfold Instr.checkKey;try dsimp only
  repeat' (first|with_reducible exact Tame.pureT|with_reducible apply Tame.bind|with_reducible apply t_underlying|with_reducible apply t_typeInfo|with_reducible apply t_typeStr|with_reducible apply t_sizeOf|with_reducible apply t_part|with_reducible apply t_program|with_reducible apply t_stuck|with_reducible apply t_unsupported|with_reducible apply t_runtimePanic|with_reducible apply t_behindNumber|with_reducible apply t_byteOf|with_reducible apply t_sameAddr|with_reducible apply t_samePointer|with_reducible apply t_choose|with_reducible apply Tame.map|with_reducible apply t_forIn_array|with_reducible apply t_forIn_range|with_reducible apply t_forIn_list|with_reducible apply t_mapM|with_reducible apply t_mapM_list|with_reducible apply Tame.ite|exact ih _ _|with_reducible apply t_forIn_array|with_reducible apply t_forIn_range|intro _|split|exact True.intro|dsimp only)
theorem t_Instr_findAsking (k:TypeId) (x:Value) (es:List MapEntry) (i:Nat):T P (Instr.findAsking k x es i):=by
 induction es generalizing i with
 | nil=>trivial
 | cons e es ih =>
  unfold Instr.findAsking
  refine Tame.bind (t_Op_equal _ _ _) fun _=>?_
  split
  ·trivial
  ·exact ih _
theorem t_Instr_findKey (keyType:TypeId) (k:Value) (es:List MapEntry):T P (Instr.findKey keyType k es):=by
 unfold Instr.findKey;try dsimp only
 repeat' (first|with_reducible exact Tame.pureT|with_reducible apply Tame.bind|with_reducible apply t_Instr_findAsking|with_reducible apply t_underlying|with_reducible apply Tame.map|with_reducible apply t_forIn_array|with_reducible apply t_forIn_range|with_reducible apply t_forIn_list|with_reducible apply t_mapM|with_reducible apply t_mapM_list|with_reducible apply Tame.ite|intro _|split|exact True.intro|dsimp only)
theorem t_Instr_lookup (xType:TypeId) (x index:Value) (commaOk:Bool):T P (Instr.lookup xType x index commaOk):=by
 unfold Instr.lookup;try dsimp only
 repeat' (first|with_reducible exact Tame.pureT|with_reducible apply Tame.bind|with_reducible apply t_Instr_checkKey|with_reducible apply t_Instr_findKey|with_reducible apply t_getObj|with_reducible apply t_stuck|with_reducible apply t_underlying|with_reducible apply t_zeroValue|with_reducible apply Tame.map|with_reducible apply t_forIn_array|with_reducible apply t_forIn_range|with_reducible apply t_forIn_list|with_reducible apply t_mapM|with_reducible apply t_mapM_list|with_reducible apply Tame.ite|intro _|split|exact True.intro|dsimp only)
theorem t_Builtin_delete_ (argTypes:Array TypeId) (_type:TypeId) (args:Array Value):T P (Builtin.delete_ argTypes _type args):=by
 unfold Builtin.delete_;try dsimp only
 repeat' (first|with_reducible exact Tame.pureT|with_reducible apply Tame.bind|with_reducible apply t_Instr_checkKey|with_reducible apply t_Instr_findKey|with_reducible apply t_getObj|with_reducible apply t_setObj|with_reducible apply t_stuck|with_reducible apply t_underlying|with_reducible apply Tame.map|with_reducible apply t_forIn_array|with_reducible apply t_forIn_range|with_reducible apply t_forIn_list|with_reducible apply t_mapM|with_reducible apply t_mapM_list|with_reducible apply Tame.ite|intro _|split|exact True.intro|dsimp only)
theorem t_Builtin_imag_ (t:Array TypeId) (u:TypeId) (args:Array Value):T P (Builtin.imag_ t u args):=by
 unfold Builtin.imag_
 rcases args with ⟨_|⟨a,_|⟨b,_|⟨c,l⟩⟩⟩⟩
 ·trivial
 ·cases a <;> trivial
 ·trivial
 ·trivial
theorem t_Builtin_len_ (argTypes:Array TypeId) (_type:TypeId) (args:Array Value):T P (Builtin.len_ argTypes _type args):=by
 unfold Builtin.len_;try dsimp only
 repeat' (first|with_reducible exact Tame.pureT|with_reducible apply Tame.bind|with_reducible apply t_getObj|with_reducible apply t_stuck|with_reducible apply t_underlying|with_reducible apply Tame.map|with_reducible apply t_forIn_array|with_reducible apply t_forIn_range|with_reducible apply t_forIn_list|with_reducible apply t_mapM|with_reducible apply t_mapM_list|with_reducible apply Tame.ite|intro _|split|exact True.intro|dsimp only)
theorem t_Builtin_max2:∀ x0 x1,T P (Builtin.max2 x0 x1):=by
 intro x0 x1;unfold Builtin.max2;try dsimp only
 repeat' (first|with_reducible exact Tame.pureT|with_reducible apply Tame.bind|with_reducible apply t_Op_stringOp|with_reducible apply t_asBool|with_reducible apply t_choose|with_reducible apply t_stuck|with_reducible apply t_unsupported|with_reducible apply Tame.map|with_reducible apply t_forIn_array|with_reducible apply t_forIn_range|with_reducible apply t_forIn_list|with_reducible apply t_mapM|with_reducible apply t_mapM_list|with_reducible apply Tame.ite|intro _|split|exact True.intro|dsimp only)
theorem t_Builtin_max_ (t:Array TypeId) (u:TypeId) (args:Array Value):T P (Builtin.max_ t u args):=by
 unfold Builtin.max_
 split
 ·trivial
 ·exact t_foldlM _ t_Builtin_max2 _ _
theorem t_Builtin_min2:∀ x0 x1,T P (Builtin.min2 x0 x1):=by
 intro x0 x1;unfold Builtin.min2;try dsimp only
 repeat' (first|with_reducible exact Tame.pureT|with_reducible apply Tame.bind|with_reducible apply t_Op_stringOp|with_reducible apply t_asBool|with_reducible apply t_choose|with_reducible apply t_stuck|with_reducible apply t_unsupported|with_reducible apply Tame.map|with_reducible apply t_forIn_array|with_reducible apply t_forIn_range|with_reducible apply t_forIn_list|with_reducible apply t_mapM|with_reducible apply t_mapM_list|with_reducible apply Tame.ite|intro _|split|exact True.intro|dsimp only)
theorem t_Builtin_min_ (t:Array TypeId) (u:TypeId) (args:Array Value):T P (Builtin.min_ t u args):=by
 unfold Builtin.min_
 split
 ·trivial
 ·exact t_foldlM _ t_Builtin_min2 _ _
theorem t_Builtin_real_ (t:Array TypeId) (u:TypeId) (args:Array Value):T P (Builtin.real_ t u args):=by
 unfold Builtin.real_
 rcases args with ⟨_|⟨a,_|⟨b,_|⟨c,l⟩⟩⟩⟩
 ·trivial
 ·cases a <;> trivial
 ·trivial
 ·trivial
theorem t_Builtin_ssaWrapNilChk_ (t:Array TypeId) (u:TypeId) (args:Array Value):T P (Builtin.ssaWrapNilChk_ t u args):=by
 unfold Builtin.ssaWrapNilChk_
 rcases args with ⟨_|⟨a,_|⟨b,_|⟨c,_|⟨d,l⟩⟩⟩⟩⟩
 ·trivial
 ·trivial
 ·cases b <;> trivial
 ·cases b <;> cases c <;> first|trivial|skip
  cases a <;> first|trivial|skip
  rename_i r
  cases r
  ·refine Tame.bind (t_choose _) fun _=>?_
   repeat' (first|with_reducible exact Tame.pureT|with_reducible apply Tame.bind|with_reducible apply t_runtimePanic|with_reducible apply t_stuck|with_reducible apply t_unsupported|with_reducible apply t_getObj|with_reducible apply t_setObj|with_reducible apply t_viewAt|with_reducible apply t_new|with_reducible apply t_elemOf|with_reducible apply t_typeInfo|with_reducible apply t_sizeOf|with_reducible apply t_asInt|with_reducible apply t_choose|with_reducible apply t_underlying|with_reducible apply t_program|with_reducible apply t_shape|with_reducible apply t_variablesAt|with_reducible apply t_loadBytes|with_reducible apply t_freeze|with_reducible apply t_newRow|with_reducible apply t_markStringish|with_reducible apply Tame.map|with_reducible apply t_forIn_array|with_reducible apply t_forIn_range|with_reducible apply t_forIn_list|with_reducible apply t_mapM|with_reducible apply t_mapM_list|with_reducible apply Tame.ite|intro _|split|exact True.intro|dsimp only)
  ·trivial
 ·cases b <;> cases c <;> trivial
theorem t_Builtin_unsafeAdd_ (t:Array TypeId) (u:TypeId) (args:Array Value):T P (Builtin.unsafeAdd_ t u args):=by
 unfold Builtin.unsafeAdd_
 rcases args with ⟨_|⟨a,_|⟨b,_|⟨c,l⟩⟩⟩⟩
 ·trivial
 ·cases a <;> trivial
 ·cases a <;> first|trivial|skip
  refine Tame.bind (t_asInt _) fun _=>?_
  repeat' (first|with_reducible exact Tame.pureT|with_reducible apply Tame.bind|with_reducible apply t_runtimePanic|with_reducible apply t_stuck|with_reducible apply t_unsupported|with_reducible apply t_getObj|with_reducible apply t_setObj|with_reducible apply t_viewAt|with_reducible apply t_new|with_reducible apply t_elemOf|with_reducible apply t_typeInfo|with_reducible apply t_sizeOf|with_reducible apply t_asInt|with_reducible apply t_choose|with_reducible apply t_underlying|with_reducible apply t_program|with_reducible apply t_shape|with_reducible apply t_variablesAt|with_reducible apply t_loadBytes|with_reducible apply t_freeze|with_reducible apply t_newRow|with_reducible apply t_markStringish|with_reducible apply Tame.map|with_reducible apply t_forIn_array|with_reducible apply t_forIn_range|with_reducible apply t_forIn_list|with_reducible apply t_mapM|with_reducible apply t_mapM_list|with_reducible apply Tame.ite|intro _|split|exact True.intro|dsimp only)
 ·cases a <;> trivial
theorem t_Builtin_unsafeSlice_ (t:Array TypeId) (u:TypeId) (args:Array Value):T P (Builtin.unsafeSlice_ t u args):=by
 unfold Builtin.unsafeSlice_
 rcases args with ⟨_|⟨a,_|⟨b,_|⟨c,l⟩⟩⟩⟩
 ·trivial
 ·cases a <;> trivial
 ·cases a <;> first|trivial|skip
  refine Tame.bind (t_asInt _) fun _=>?_
  repeat' (first|with_reducible exact Tame.pureT|with_reducible apply Tame.bind|with_reducible apply t_runtimePanic|with_reducible apply t_stuck|with_reducible apply t_unsupported|with_reducible apply t_getObj|with_reducible apply t_setObj|with_reducible apply t_viewAt|with_reducible apply t_new|with_reducible apply t_elemOf|with_reducible apply t_typeInfo|with_reducible apply t_sizeOf|with_reducible apply t_asInt|with_reducible apply t_choose|with_reducible apply t_underlying|with_reducible apply t_program|with_reducible apply t_shape|with_reducible apply t_variablesAt|with_reducible apply t_loadBytes|with_reducible apply t_freeze|with_reducible apply t_newRow|with_reducible apply t_markStringish|with_reducible apply Tame.map|with_reducible apply t_forIn_array|with_reducible apply t_forIn_range|with_reducible apply t_forIn_list|with_reducible apply t_mapM|with_reducible apply t_mapM_list|with_reducible apply Tame.ite|intro _|split|exact True.intro|dsimp only)
 ·cases a <;> trivial
theorem t_Builtin_unsafeSliceData_ (t:Array TypeId) (u:TypeId) (args:Array Value):T P (Builtin.unsafeSliceData_ t u args):=by
 unfold Builtin.unsafeSliceData_
 rcases args with ⟨_|⟨a,_|⟨b,_|⟨c,l⟩⟩⟩⟩
 ·trivial
 ·cases a <;> first|trivial|skip
  rename_i r _ _
  cases r
  ·trivial
  ·refine Tame.ite trivial ?_
   repeat' (first|with_reducible exact Tame.pureT|with_reducible apply Tame.bind|with_reducible apply t_runtimePanic|with_reducible apply t_stuck|with_reducible apply t_unsupported|with_reducible apply t_getObj|with_reducible apply t_setObj|with_reducible apply t_viewAt|with_reducible apply t_new|with_reducible apply t_elemOf|with_reducible apply t_typeInfo|with_reducible apply t_sizeOf|with_reducible apply t_asInt|with_reducible apply t_choose|with_reducible apply t_underlying|with_reducible apply t_program|with_reducible apply t_shape|with_reducible apply t_variablesAt|with_reducible apply t_loadBytes|with_reducible apply t_freeze|with_reducible apply t_newRow|with_reducible apply t_markStringish|with_reducible apply Tame.map|with_reducible apply t_forIn_array|with_reducible apply t_forIn_range|with_reducible apply t_forIn_list|with_reducible apply t_mapM|with_reducible apply t_mapM_list|with_reducible apply Tame.ite|intro _|split|exact True.intro|dsimp only)
 ·trivial
 ·trivial
theorem t_Builtin_unsafeString_ (t:Array TypeId) (u:TypeId) (args:Array Value):T P (Builtin.unsafeString_ t u args):=by
 unfold Builtin.unsafeString_
 rcases args with ⟨_|⟨a,_|⟨b,_|⟨c,l⟩⟩⟩⟩
 ·trivial
 ·cases a <;> trivial
 ·cases a <;> first|trivial|skip
  refine Tame.bind (t_asInt _) fun _=>?_
  repeat' (first|with_reducible exact Tame.pureT|with_reducible apply Tame.bind|with_reducible apply t_runtimePanic|with_reducible apply t_stuck|with_reducible apply t_unsupported|with_reducible apply t_getObj|with_reducible apply t_setObj|with_reducible apply t_viewAt|with_reducible apply t_new|with_reducible apply t_elemOf|with_reducible apply t_typeInfo|with_reducible apply t_sizeOf|with_reducible apply t_asInt|with_reducible apply t_choose|with_reducible apply t_underlying|with_reducible apply t_program|with_reducible apply t_shape|with_reducible apply t_variablesAt|with_reducible apply t_loadBytes|with_reducible apply t_freeze|with_reducible apply t_newRow|with_reducible apply t_markStringish|with_reducible apply Tame.map|with_reducible apply t_forIn_array|with_reducible apply t_forIn_range|with_reducible apply t_forIn_list|with_reducible apply t_mapM|with_reducible apply t_mapM_list|with_reducible apply Tame.ite|intro _|split|exact True.intro|dsimp only)
 ·cases a <;> trivial
theorem t_Builtin_unsafeStringData_ (t:Array TypeId) (u:TypeId) (args:Array Value):T P (Builtin.unsafeStringData_ t u args):=by
 unfold Builtin.unsafeStringData_
 rcases args with ⟨_|⟨a,_|⟨b,_|⟨c,l⟩⟩⟩⟩
 ·trivial
 ·cases a <;> first|trivial|skip
  refine Tame.ite ?_ ?_
  all_goals repeat' (first|with_reducible exact Tame.pureT|with_reducible apply Tame.bind|with_reducible apply t_runtimePanic|with_reducible apply t_stuck|with_reducible apply t_unsupported|with_reducible apply t_getObj|with_reducible apply t_setObj|with_reducible apply t_viewAt|with_reducible apply t_new|with_reducible apply t_elemOf|with_reducible apply t_typeInfo|with_reducible apply t_sizeOf|with_reducible apply t_asInt|with_reducible apply t_choose|with_reducible apply t_underlying|with_reducible apply t_program|with_reducible apply t_shape|with_reducible apply t_variablesAt|with_reducible apply t_loadBytes|with_reducible apply t_freeze|with_reducible apply t_newRow|with_reducible apply t_markStringish|with_reducible apply Tame.map|with_reducible apply t_forIn_array|with_reducible apply t_forIn_range|with_reducible apply t_forIn_list|with_reducible apply t_mapM|with_reducible apply t_mapM_list|with_reducible apply Tame.ite|intro _|split|exact True.intro|dsimp only)
 ·trivial
 ·trivial
theorem t_Instr_sliceBound (x:Value) (y:Nat) (code:BoundsCode):T P (Instr.sliceBound x y code):=by
 unfold Instr.sliceBound;try dsimp only
 repeat' (first|with_reducible exact Tame.pureT|with_reducible apply Tame.bind|with_reducible apply t_asIntOf|with_reducible apply t_boundsPanic|with_reducible apply Tame.map|with_reducible apply t_forIn_array|with_reducible apply t_forIn_range|with_reducible apply t_forIn_list|with_reducible apply t_mapM|with_reducible apply t_mapM_list|with_reducible apply Tame.ite|intro _|split|exact True.intro|dsimp only)
theorem t_Instr_sliceBounds (isSlice:Bool) (len cap:Nat) (low high max:Option Value):T P (Instr.sliceBounds isSlice len cap low high max):=by
 unfold Instr.sliceBounds;try dsimp only
 repeat' (first|with_reducible exact Tame.pureT|with_reducible apply Tame.bind|with_reducible apply t_Instr_sliceBound|with_reducible apply t_stuck|with_reducible apply Tame.map|with_reducible apply t_forIn_array|with_reducible apply t_forIn_range|with_reducible apply t_forIn_list|with_reducible apply t_mapM|with_reducible apply t_mapM_list|with_reducible apply Tame.ite|intro _|split|exact True.intro|dsimp only)
theorem t_Instr_slice (xType:TypeId) (x:Value) (low high max:Option Value):T P (Instr.slice xType x low high max):=by
 unfold Instr.slice;try dsimp only
 repeat' (first|with_reducible exact Tame.pureT|with_reducible apply Tame.bind|with_reducible apply t_Instr_sliceBounds|with_reducible apply t_Op_Complex_add|with_reducible apply t_asAddr|with_reducible apply t_sizeOf|with_reducible apply t_stuck|with_reducible apply t_underlying|with_reducible apply Tame.map|with_reducible apply t_forIn_array|with_reducible apply t_forIn_range|with_reducible apply t_forIn_list|with_reducible apply t_mapM|with_reducible apply t_mapM_list|with_reducible apply Tame.ite|intro _|split|exact True.intro|dsimp only)
theorem t_Instr_sureAddr:∀ x0,T P (Instr.sureAddr x0):=by
 intro x0;unfold Instr.sureAddr;try dsimp only
 repeat' (first|with_reducible exact Tame.pureT|with_reducible apply Tame.bind|with_reducible apply t_stuck|with_reducible apply Tame.map|with_reducible apply t_forIn_array|with_reducible apply t_forIn_range|with_reducible apply t_forIn_list|with_reducible apply t_mapM|with_reducible apply t_mapM_list|with_reducible apply Tame.ite|intro _|split|exact True.intro|dsimp only)
theorem t_Instr_loadAt (t:TypeId) (addr:Value):T P (Instr.loadAt t addr):=by
 unfold Instr.loadAt;try dsimp only
 repeat' (first|with_reducible exact Tame.pureT|with_reducible apply Tame.bind|with_reducible apply t_Instr_sureAddr|with_reducible apply t_loadVar|with_reducible apply Tame.map|with_reducible apply t_forIn_array|with_reducible apply t_forIn_range|with_reducible apply t_forIn_list|with_reducible apply t_mapM|with_reducible apply t_mapM_list|with_reducible apply Tame.ite|intro _|split|exact True.intro|dsimp only)
theorem t_Instr_storeAt (t:TypeId) (addr val:Value):T P (Instr.storeAt t addr val):=by
 unfold Instr.storeAt;try dsimp only
 repeat' (first|with_reducible exact Tame.pureT|with_reducible apply Tame.bind|with_reducible apply t_Instr_sureAddr|with_reducible apply t_storeVar|with_reducible apply Tame.map|with_reducible apply t_forIn_array|with_reducible apply t_forIn_range|with_reducible apply t_forIn_list|with_reducible apply t_mapM|with_reducible apply t_mapM_list|with_reducible apply Tame.ite|intro _|split|exact True.intro|dsimp only)
theorem t_Instr_fieldAt (s:TypeId) (addr:Value) (field:Nat):T P (Instr.fieldAt s addr field):=by
 unfold Instr.fieldAt;try dsimp only
 repeat' (first|with_reducible exact Tame.pureT|with_reducible apply Tame.bind|with_reducible apply t_Instr_sureAddr|with_reducible apply t_fieldPlace|with_reducible apply t_stuck|with_reducible apply t_underlying|with_reducible apply Tame.map|with_reducible apply t_forIn_array|with_reducible apply t_forIn_range|with_reducible apply t_forIn_list|with_reducible apply t_mapM|with_reducible apply t_mapM_list|with_reducible apply Tame.ite|intro _|split|exact True.intro|dsimp only)
theorem t_Instr_indexAt (t:TypeId) (x index:Value):T P (Instr.indexAt t x index):=by
 unfold Instr.indexAt;try dsimp only
 repeat' (first|with_reducible exact Tame.pureT|with_reducible apply Tame.bind|with_reducible apply t_Instr_slice|with_reducible apply t_Instr_sureAddr|with_reducible apply t_Op_Complex_add|with_reducible apply t_asIntOf|with_reducible apply t_boundsPanic|with_reducible apply t_sizeOf|with_reducible apply t_stuck|with_reducible apply t_underlying|with_reducible apply t_unsupported|with_reducible apply Tame.map|with_reducible apply t_forIn_array|with_reducible apply t_forIn_range|with_reducible apply t_forIn_list|with_reducible apply t_mapM|with_reducible apply t_mapM_list|with_reducible apply Tame.ite|intro _|split|exact True.intro|dsimp only)
theorem t_Instr_sliceAt (t:TypeId) (x:Value) (low high max:Option Value):T P (Instr.sliceAt t x low high max):=by
 unfold Instr.sliceAt;try dsimp only
 repeat' (first|with_reducible exact Tame.pureT|with_reducible apply Tame.bind|with_reducible apply t_Instr_slice|with_reducible apply t_Instr_sliceBounds|with_reducible apply t_Instr_sureAddr|with_reducible apply t_Op_Complex_add|with_reducible apply t_sizeOf|with_reducible apply t_underlying|with_reducible apply Tame.map|with_reducible apply t_forIn_array|with_reducible apply t_forIn_range|with_reducible apply t_forIn_list|with_reducible apply t_mapM|with_reducible apply t_mapM_list|with_reducible apply Tame.ite|intro _|split|exact True.intro|dsimp only)
theorem t_Instr_arrayAt (arr:TypeId) (x:Value):T P (Instr.arrayAt arr x):=by
 unfold Instr.arrayAt;try dsimp only
 repeat' (first|with_reducible exact Tame.pureT|with_reducible apply Tame.bind|with_reducible apply t_Instr_slice|with_reducible apply t_runtimePanic|with_reducible apply t_stuck|with_reducible apply t_underlying|with_reducible apply Tame.map|with_reducible apply t_forIn_array|with_reducible apply t_forIn_range|with_reducible apply t_forIn_list|with_reducible apply t_mapM|with_reducible apply t_mapM_list|with_reducible apply Tame.ite|intro _|split|exact True.intro|dsimp only)
theorem t_Instr_alloc (elem:TypeId) (heap:Bool) (old:Value):T P (Instr.alloc elem heap old):=by
 unfold Instr.alloc;try dsimp only
 repeat' (first|with_reducible exact Tame.pureT|with_reducible apply Tame.bind|with_reducible apply t_newVar|with_reducible apply t_storeVar|with_reducible apply t_zeroValue|with_reducible apply Tame.map|with_reducible apply t_forIn_array|with_reducible apply t_forIn_range|with_reducible apply t_forIn_list|with_reducible apply t_mapM|with_reducible apply t_mapM_list|with_reducible apply Tame.ite|intro _|split|exact True.intro|dsimp only)
theorem t_Instr_box (elem:TypeId) (v:Value):T P (Instr.box elem v):=by
 unfold Instr.box;try dsimp only
 repeat' (first|with_reducible exact Tame.pureT|with_reducible apply Tame.bind|with_reducible apply t_newVar|with_reducible apply Tame.map|with_reducible apply t_forIn_array|with_reducible apply t_forIn_range|with_reducible apply t_forIn_list|with_reducible apply t_mapM|with_reducible apply t_mapM_list|with_reducible apply Tame.ite|intro _|split|exact True.intro|dsimp only)
theorem t_Instr_build (t:TypeId) (parts:Array (Nat × Value)):T P (Instr.build t parts):=by
 unfold Instr.build;try dsimp only
 repeat' (first|with_reducible exact Tame.pureT|with_reducible apply Tame.bind|with_reducible apply t_part|with_reducible apply t_sizeOf|with_reducible apply t_stuck|with_reducible apply t_underlying|with_reducible apply t_zeroValue|with_reducible apply Tame.map|with_reducible apply t_forIn_array|with_reducible apply t_forIn_range|with_reducible apply t_forIn_list|with_reducible apply t_mapM|with_reducible apply t_mapM_list|with_reducible apply Tame.ite|intro _|split|exact True.intro|dsimp only)
theorem t_Instr_buildSlice (t:TypeId) (len:Nat) (parts:Array (Nat × Value)):T P (Instr.buildSlice t len parts):=by
 unfold Instr.buildSlice;try dsimp only
 repeat' (first|with_reducible exact Tame.pureT|with_reducible apply Tame.bind|with_reducible apply t_Instr_slice|with_reducible apply t_newRow|with_reducible apply t_part|with_reducible apply t_sizeOf|with_reducible apply t_stuck|with_reducible apply t_underlying|with_reducible apply t_unsupported|with_reducible apply t_zeroValue|with_reducible apply Tame.map|with_reducible apply t_forIn_array|with_reducible apply t_forIn_range|with_reducible apply t_forIn_list|with_reducible apply t_mapM|with_reducible apply t_mapM_list|with_reducible apply Tame.ite|intro _|split|exact True.intro|dsimp only)
theorem t_Instr_waits (g:Nat):T P (Instr.waits g):=by
 unfold Instr.waits;try dsimp only
 repeat' (first|with_reducible exact Tame.pureT|with_reducible apply Tame.bind|with_reducible apply t_shape|with_reducible apply Tame.map|with_reducible apply t_forIn_array|with_reducible apply t_forIn_range|with_reducible apply t_forIn_list|with_reducible apply t_mapM|with_reducible apply t_mapM_list|with_reducible apply Tame.ite|intro _|split|exact True.intro|dsimp only)
theorem t_Instr_ready (g:Nat):T P (Instr.ready g):=by
 unfold Instr.ready;try dsimp only
 repeat' (first|with_reducible exact Tame.pureT|with_reducible apply Tame.bind|with_reducible apply t_getObj|with_reducible apply t_setObj|with_reducible apply t_shape|with_reducible apply t_stuck|with_reducible apply Tame.map|with_reducible apply t_forIn_array|with_reducible apply t_forIn_range|with_reducible apply t_forIn_list|with_reducible apply t_mapM|with_reducible apply t_mapM_list|with_reducible apply Tame.ite|intro _|split|exact True.intro|dsimp only)
theorem t_Instr_makeInterface (xType:TypeId) (x:Value):T P (Instr.makeInterface xType x):=by
 unfold Instr.makeInterface;try dsimp only
 repeat' (first|with_reducible exact Tame.pureT|with_reducible apply Tame.bind|with_reducible apply t_stuck|with_reducible apply t_underlying|with_reducible apply Tame.map|with_reducible apply t_forIn_array|with_reducible apply t_forIn_range|with_reducible apply t_forIn_list|with_reducible apply t_mapM|with_reducible apply t_mapM_list|with_reducible apply Tame.ite|intro _|split|exact True.intro|dsimp only)
theorem t_Instr_makeFunc (fn:Fn) (first captured:Array Value):T P (Instr.makeFunc fn first captured):=by
 unfold Instr.makeFunc;try dsimp only
 repeat' (first|with_reducible exact Tame.pureT|with_reducible apply Tame.bind|with_reducible apply Tame.map|with_reducible apply t_forIn_array|with_reducible apply t_forIn_range|with_reducible apply t_forIn_list|with_reducible apply t_mapM|with_reducible apply t_mapM_list|with_reducible apply Tame.ite|intro _|split|exact True.intro|dsimp only)
theorem t_Instr_makeMap (t:TypeId) (reserve:Option Value):T P (Instr.makeMap t reserve):=by
 unfold Instr.makeMap;try dsimp only
 repeat' (first|with_reducible exact Tame.pureT|with_reducible apply Tame.bind|with_reducible apply t_asInt|with_reducible apply t_new|with_reducible apply t_stuck|with_reducible apply t_underlying|with_reducible apply Tame.map|with_reducible apply t_forIn_array|with_reducible apply t_forIn_range|with_reducible apply t_forIn_list|with_reducible apply t_mapM|with_reducible apply t_mapM_list|with_reducible apply Tame.ite|intro _|split|exact True.intro|dsimp only)
theorem t_Instr_makeChan (t:TypeId) (size:Value):T P (Instr.makeChan t size):=by
 unfold Instr.makeChan;try dsimp only
 repeat' (first|with_reducible exact Tame.pureT|with_reducible apply Tame.bind|with_reducible apply t_asInt|with_reducible apply t_new|with_reducible apply t_runtimePanic|with_reducible apply t_stuck|with_reducible apply t_typeInfo|with_reducible apply t_underlying|with_reducible apply Tame.map|with_reducible apply t_forIn_array|with_reducible apply t_forIn_range|with_reducible apply t_forIn_list|with_reducible apply t_mapM|with_reducible apply t_mapM_list|with_reducible apply Tame.ite|intro _|split|exact True.intro|dsimp only)
theorem t_Instr_makeSlice (t:TypeId) (len cap:Value):T P (Instr.makeSlice t len cap):=by
 unfold Instr.makeSlice;try dsimp only
 repeat' (first|with_reducible exact Tame.pureT|with_reducible apply Tame.bind|with_reducible apply t_Instr_slice|with_reducible apply t_asInt|with_reducible apply t_askRoom|with_reducible apply t_choose|with_reducible apply t_newRow|with_reducible apply t_runtimePanic|with_reducible apply t_sizeOf|with_reducible apply t_stuck|with_reducible apply t_typeInfo|with_reducible apply t_underlying|with_reducible apply t_zeroValue|with_reducible apply Tame.map|with_reducible apply t_forIn_array|with_reducible apply t_forIn_range|with_reducible apply t_forIn_list|with_reducible apply t_mapM|with_reducible apply t_mapM_list|with_reducible apply Tame.ite|intro _|split|exact True.intro|dsimp only)
theorem t_Instr_field (xType:TypeId) (x:Value) (field:Nat):T P (Instr.field xType x field):=by
 unfold Instr.field;try dsimp only
 repeat' (first|with_reducible exact Tame.pureT|with_reducible apply Tame.bind|with_reducible apply t_asAgg|with_reducible apply t_part|with_reducible apply t_stuck|with_reducible apply t_underlying|with_reducible apply Tame.map|with_reducible apply t_forIn_array|with_reducible apply t_forIn_range|with_reducible apply t_forIn_list|with_reducible apply t_mapM|with_reducible apply t_mapM_list|with_reducible apply Tame.ite|intro _|split|exact True.intro|dsimp only)
theorem t_Instr_index (xType:TypeId) (x index:Value):T P (Instr.index xType x index):=by
 unfold Instr.index;try dsimp only
 repeat' (first|with_reducible exact Tame.pureT|with_reducible apply Tame.bind|with_reducible apply t_asIntOf|with_reducible apply t_boundsPanic|with_reducible apply t_part|with_reducible apply t_sizeOf|with_reducible apply t_stuck|with_reducible apply t_underlying|with_reducible apply Tame.map|with_reducible apply t_forIn_array|with_reducible apply t_forIn_range|with_reducible apply t_forIn_list|with_reducible apply t_mapM|with_reducible apply t_mapM_list|with_reducible apply Tame.ite|intro _|split|exact True.intro|dsimp only)
theorem t_Instr_keyThatStays (old new:Value):T P (Instr.keyThatStays old new):=by
 unfold Instr.keyThatStays;try dsimp only
 repeat' (first|with_reducible exact Tame.pureT|with_reducible apply Tame.bind|with_reducible apply t_choose|with_reducible apply Tame.map|with_reducible apply t_forIn_array|with_reducible apply t_forIn_range|with_reducible apply t_forIn_list|with_reducible apply t_mapM|with_reducible apply t_mapM_list|with_reducible apply Tame.ite|intro _|split|exact True.intro|dsimp only)
theorem t_Instr_mapUpdate (mapType:TypeId) (map key value:Value):T P (Instr.mapUpdate mapType map key value):=by
 unfold Instr.mapUpdate;try dsimp only
 repeat' (first|with_reducible exact Tame.pureT|with_reducible apply Tame.bind|with_reducible apply t_Instr_checkKey|with_reducible apply t_Instr_findKey|with_reducible apply t_Instr_keyThatStays|with_reducible apply t_getObj|with_reducible apply t_runtimePanic|with_reducible apply t_setObj|with_reducible apply t_stuck|with_reducible apply t_underlying|with_reducible apply Tame.map|with_reducible apply t_forIn_array|with_reducible apply t_forIn_range|with_reducible apply t_forIn_list|with_reducible apply t_mapM|with_reducible apply t_mapM_list|with_reducible apply Tame.ite|intro _|split|exact True.intro|dsimp only)
theorem t_Instr_mapEntry (mapType:TypeId) (map key:Value):T P (Instr.mapEntry mapType map key):=by
 unfold Instr.mapEntry;try dsimp only
 repeat' (first|with_reducible exact Tame.pureT|with_reducible apply Tame.bind|with_reducible apply t_Instr_checkKey|with_reducible apply t_Instr_findKey|with_reducible apply t_Instr_keyThatStays|with_reducible apply t_getObj|with_reducible apply t_runtimePanic|with_reducible apply t_setObj|with_reducible apply t_stuck|with_reducible apply t_underlying|with_reducible apply t_zeroValue|with_reducible apply Tame.map|with_reducible apply t_forIn_array|with_reducible apply t_forIn_range|with_reducible apply t_forIn_list|with_reducible apply t_mapM|with_reducible apply t_mapM_list|with_reducible apply Tame.ite|intro _|split|exact True.intro|dsimp only)
theorem t_Instr_entryStore (_mapType:TypeId) (map stamp value:Value):T P (Instr.entryStore _mapType map stamp value):=by
 unfold Instr.entryStore;try dsimp only
 repeat' (first|with_reducible exact Tame.pureT|with_reducible apply Tame.bind|with_reducible apply t_asInt|with_reducible apply t_getObj|with_reducible apply t_setObj|with_reducible apply t_stuck|with_reducible apply t_unsupported|with_reducible apply Tame.map|with_reducible apply t_forIn_array|with_reducible apply t_forIn_range|with_reducible apply t_forIn_list|with_reducible apply t_mapM|with_reducible apply t_mapM_list|with_reducible apply Tame.ite|intro _|split|exact True.intro|dsimp only)
theorem t_Instr_range (xType:TypeId) (x:Value):T P (Instr.range xType x):=by
 unfold Instr.range;try dsimp only
 repeat' (first|with_reducible exact Tame.pureT|with_reducible apply Tame.bind|with_reducible apply t_getObj|with_reducible apply t_new|with_reducible apply t_stuck|with_reducible apply t_underlying|with_reducible apply Tame.map|with_reducible apply t_forIn_array|with_reducible apply t_forIn_range|with_reducible apply t_forIn_list|with_reducible apply t_mapM|with_reducible apply t_mapM_list|with_reducible apply Tame.ite|intro _|split|exact True.intro|dsimp only)
theorem t_Instr_next (iter:Value) (isString:Bool) (_type:TypeId):T P (Instr.next iter isString _type):=by
 unfold Instr.next;try dsimp only
 repeat' (first|with_reducible exact Tame.pureT|with_reducible apply Tame.bind|with_reducible apply t_choose|with_reducible apply t_getObj|with_reducible apply t_setObj|with_reducible apply t_stuck|with_reducible apply t_unsupported|with_reducible apply Tame.map|with_reducible apply t_forIn_array|with_reducible apply t_forIn_range|with_reducible apply t_forIn_list|with_reducible apply t_mapM|with_reducible apply t_mapM_list|with_reducible apply Tame.ite|intro _|split|exact True.intro|dsimp only)
theorem t_Instr_entry (iter:Value):T P (Instr.entry iter):=by
 unfold Instr.entry;try dsimp only
 repeat' (first|with_reducible exact Tame.pureT|with_reducible apply Tame.bind|with_reducible apply t_getObj|with_reducible apply t_stuck|with_reducible apply t_unsupported|with_reducible apply Tame.map|with_reducible apply t_forIn_array|with_reducible apply t_forIn_range|with_reducible apply t_forIn_list|with_reducible apply t_mapM|with_reducible apply t_mapM_list|with_reducible apply Tame.ite|intro _|split|exact True.intro|dsimp only)
theorem t_Instr_getLoop (l:Nat):T P (Instr.getLoop l):=by
 unfold Instr.getLoop;try dsimp only
 repeat' (first|with_reducible exact Tame.pureT|with_reducible apply Tame.bind|with_reducible apply t_Instr_range|with_reducible apply t_getObj|with_reducible apply t_stuck|with_reducible apply Tame.map|with_reducible apply t_forIn_array|with_reducible apply t_forIn_range|with_reducible apply t_forIn_list|with_reducible apply t_mapM|with_reducible apply t_mapM_list|with_reducible apply Tame.ite|intro _|split|exact True.intro|dsimp only)
theorem t_Instr_enterLoop (fn:FuncId) (tmps:Array Value) (params:Array Tmp) (assign body:Code) (around:Option Nat):T P (Instr.enterLoop fn tmps params assign body around):=by
 unfold Instr.enterLoop;try dsimp only
 repeat' (first|with_reducible exact Tame.pureT|with_reducible apply Tame.bind|with_reducible apply t_Instr_getLoop|with_reducible apply t_Instr_ready|with_reducible apply t_new|with_reducible apply t_noRoom|with_reducible apply Tame.map|with_reducible apply t_forIn_array|with_reducible apply t_forIn_range|with_reducible apply t_forIn_list|with_reducible apply t_mapM|with_reducible apply t_mapM_list|with_reducible apply Tame.ite|intro _|split|exact True.intro|dsimp only)
theorem t_Instr_beginRound (l:Nat):T P (Instr.beginRound l):=by
 unfold Instr.beginRound;try dsimp only
 repeat' (first|with_reducible exact Tame.pureT|with_reducible apply Tame.bind|with_reducible apply t_Instr_getLoop|with_reducible apply t_Instr_range|with_reducible apply t_Instr_ready|with_reducible apply t_runtimePanic|with_reducible apply t_setObj|with_reducible apply Tame.map|with_reducible apply t_forIn_array|with_reducible apply t_forIn_range|with_reducible apply t_forIn_list|with_reducible apply t_mapM|with_reducible apply t_mapM_list|with_reducible apply Tame.ite|intro _|split|exact True.intro|dsimp only)
theorem t_Instr_endRound (l:Nat) (jump:Option Code):T P (Instr.endRound l jump):=by
 unfold Instr.endRound;try dsimp only
 repeat' (first|with_reducible exact Tame.pureT|with_reducible apply Tame.bind|with_reducible apply t_Instr_getLoop|with_reducible apply t_Instr_ready|with_reducible apply t_setObj|with_reducible apply Tame.map|with_reducible apply t_forIn_array|with_reducible apply t_forIn_range|with_reducible apply t_forIn_list|with_reducible apply t_mapM|with_reducible apply t_mapM_list|with_reducible apply Tame.ite|intro _|split|exact True.intro|dsimp only)
theorem t_Instr_endLoop (l:Nat):T P (Instr.endLoop l):=by
 unfold Instr.endLoop;try dsimp only
 repeat' (first|with_reducible exact Tame.pureT|with_reducible apply Tame.bind|with_reducible apply t_Instr_getLoop|with_reducible apply t_Instr_range|with_reducible apply t_runtimePanic|with_reducible apply t_setObj|with_reducible apply Tame.map|with_reducible apply t_forIn_array|with_reducible apply t_forIn_range|with_reducible apply t_forIn_list|with_reducible apply t_mapM|with_reducible apply t_mapM_list|with_reducible apply Tame.ite|intro _|split|exact True.intro|dsimp only)
theorem t_Instr_deferInRound (l:Nat) (d:Deferred):T P (Instr.deferInRound l d):=by
 unfold Instr.deferInRound;try dsimp only
 repeat' (first|with_reducible exact Tame.pureT|with_reducible apply Tame.bind|with_reducible apply t_Instr_getLoop|with_reducible apply t_Instr_range|with_reducible apply t_getObj|with_reducible apply t_setObj|with_reducible apply t_stuck|with_reducible apply t_throw|with_reducible apply Tame.map|with_reducible apply t_forIn_array|with_reducible apply t_forIn_range|with_reducible apply t_forIn_list|with_reducible apply t_mapM|with_reducible apply t_mapM_list|with_reducible apply Tame.ite|intro _|split|exact True.intro|dsimp only)
theorem t_Instr_takeDeferred (block:Nat):T P (Instr.takeDeferred block):=by
 unfold Instr.takeDeferred;try dsimp only
 repeat' (first|with_reducible exact Tame.pureT|with_reducible apply Tame.bind|with_reducible apply t_Instr_range|with_reducible apply t_getObj|with_reducible apply t_setObj|with_reducible apply t_stuck|with_reducible apply Tame.map|with_reducible apply t_forIn_array|with_reducible apply t_forIn_range|with_reducible apply t_forIn_list|with_reducible apply t_mapM|with_reducible apply t_mapM_list|with_reducible apply Tame.ite|intro _|split|exact True.intro|dsimp only)
theorem t_Place_get (t:TypeId):∀ x0,T P (Place.get t x0):=by
 intro x0;unfold Place.get;try dsimp only
 repeat' (first|with_reducible exact Tame.pureT|with_reducible apply Tame.bind|with_reducible apply t_loadVar|with_reducible apply Tame.map|with_reducible apply t_forIn_array|with_reducible apply t_forIn_range|with_reducible apply t_forIn_list|with_reducible apply t_mapM|with_reducible apply t_mapM_list|with_reducible apply Tame.ite|intro _|split|exact True.intro|dsimp only)
theorem t_follow (l:List FieldStep) (t:TypeId) (x:Place):T P (follow l t x):=by
 induction l generalizing t x with
 | nil=>trivial
 | cons s l ih =>
  unfold follow;try dsimp only
  repeat' (first|with_reducible exact Tame.pureT|with_reducible apply Tame.bind|with_reducible apply t_underlying|with_reducible apply t_typeInfo|with_reducible apply t_typeStr|with_reducible apply t_sizeOf|with_reducible apply t_part|with_reducible apply t_program|with_reducible apply t_stuck|with_reducible apply t_unsupported|with_reducible apply t_runtimePanic|with_reducible apply t_behindNumber|with_reducible apply t_byteOf|with_reducible apply t_sameAddr|with_reducible apply t_samePointer|with_reducible apply t_choose|with_reducible apply t_asAddr|with_reducible apply t_fieldPlace|with_reducible apply t_Place_get|with_reducible apply Tame.map|with_reducible apply t_forIn_array|with_reducible apply t_forIn_range|with_reducible apply t_forIn_list|with_reducible apply t_mapM|with_reducible apply t_mapM_list|with_reducible apply Tame.ite|exact ih _ _|intro _|split|exact True.intro|dsimp only)
theorem t_receiverAt (xt:TypeId) (x:Place) (pointerReceiver:Bool) (wrapper:Option String):T P (receiverAt xt x pointerReceiver wrapper):=by
 unfold receiverAt;try dsimp only
 repeat' (first|with_reducible exact Tame.pureT|with_reducible apply Tame.bind|with_reducible apply t_Builtin_ssaWrapNilChk_|with_reducible apply t_Place_get|with_reducible apply t_asAddr|with_reducible apply t_loadVar|with_reducible apply t_stuck|with_reducible apply t_underlying|with_reducible apply Tame.map|with_reducible apply t_forIn_array|with_reducible apply t_forIn_range|with_reducible apply t_forIn_list|with_reducible apply t_mapM|with_reducible apply t_mapM_list|with_reducible apply Tame.ite|intro _|split|exact True.intro|dsimp only)
theorem t_receiverVia (t:TypeId) (v:Value) (path:Array FieldStep) (pointerReceiver:Bool):T P (receiverVia t v path pointerReceiver):=by
 unfold receiverVia;try dsimp only
 repeat' (first|with_reducible exact Tame.pureT|with_reducible apply Tame.bind|with_reducible apply t_follow|with_reducible apply t_receiverAt|with_reducible apply Tame.map|with_reducible apply t_forIn_array|with_reducible apply t_forIn_range|with_reducible apply t_forIn_list|with_reducible apply t_mapM|with_reducible apply t_mapM_list|with_reducible apply Tame.ite|intro _|split|exact True.intro|dsimp only)
theorem t_method (d:Nat) (t:TypeId) (x:Value) (n:String):T P (method d t x n):=by
 induction d generalizing t x n with
 | zero=>trivial
 | succ d ih =>
  unfold method;try dsimp only
  repeat' (first|with_reducible exact Tame.pureT|with_reducible apply Tame.bind|with_reducible apply t_underlying|with_reducible apply t_typeInfo|with_reducible apply t_typeStr|with_reducible apply t_sizeOf|with_reducible apply t_part|with_reducible apply t_program|with_reducible apply t_stuck|with_reducible apply t_unsupported|with_reducible apply t_runtimePanic|with_reducible apply t_behindNumber|with_reducible apply t_byteOf|with_reducible apply t_sameAddr|with_reducible apply t_samePointer|with_reducible apply t_choose|with_reducible apply t_asAddr|with_reducible apply t_fieldPlace|with_reducible apply t_Place_get|with_reducible apply t_receiverAt|with_reducible apply t_followBlind|with_reducible apply t_follow|with_reducible apply Tame.map|with_reducible apply t_forIn_array|with_reducible apply t_forIn_range|with_reducible apply t_forIn_list|with_reducible apply t_mapM|with_reducible apply t_mapM_list|with_reducible apply Tame.ite|exact ih _ _ _|with_reducible apply t_forIn_array|with_reducible apply t_forIn_range|intro _|split|exact True.intro|dsimp only)
theorem t_followBlind (l:List FieldStep) (t:TypeId) (x:Option Value):T P (followBlind l t x):=by
 induction l generalizing t x with
 | nil=>trivial
 | cons s l ih =>
  unfold followBlind;try dsimp only
  repeat' (first|with_reducible exact Tame.pureT|with_reducible apply Tame.bind|with_reducible apply t_underlying|with_reducible apply t_typeInfo|with_reducible apply t_typeStr|with_reducible apply t_sizeOf|with_reducible apply t_part|with_reducible apply t_program|with_reducible apply t_stuck|with_reducible apply t_unsupported|with_reducible apply t_runtimePanic|with_reducible apply t_behindNumber|with_reducible apply t_byteOf|with_reducible apply t_sameAddr|with_reducible apply t_samePointer|with_reducible apply t_choose|with_reducible apply t_asAddr|with_reducible apply t_fieldPlace|with_reducible apply t_Place_get|with_reducible apply Tame.map|with_reducible apply t_forIn_array|with_reducible apply t_forIn_range|with_reducible apply t_forIn_list|with_reducible apply t_mapM|with_reducible apply t_mapM_list|with_reducible apply Tame.ite|exact ih _ _|intro _|split|exact True.intro|dsimp only)
theorem t_nilAhead (d:Nat) (t:TypeId) (x:Value) (n:String):T P (nilAhead d t x n):=by
 induction d generalizing t x n with
 | zero=>trivial
 | succ d ih =>
  unfold nilAhead;try dsimp only
  repeat' (first|with_reducible exact Tame.pureT|with_reducible apply Tame.bind|with_reducible apply t_underlying|with_reducible apply t_typeInfo|with_reducible apply t_typeStr|with_reducible apply t_sizeOf|with_reducible apply t_part|with_reducible apply t_program|with_reducible apply t_stuck|with_reducible apply t_unsupported|with_reducible apply t_runtimePanic|with_reducible apply t_behindNumber|with_reducible apply t_byteOf|with_reducible apply t_sameAddr|with_reducible apply t_samePointer|with_reducible apply t_choose|with_reducible apply t_asAddr|with_reducible apply t_fieldPlace|with_reducible apply t_Place_get|with_reducible apply t_receiverAt|with_reducible apply t_followBlind|with_reducible apply t_follow|with_reducible apply Tame.map|with_reducible apply t_forIn_array|with_reducible apply t_forIn_range|with_reducible apply t_forIn_list|with_reducible apply t_mapM|with_reducible apply t_mapM_list|with_reducible apply Tame.ite|exact ih _ _ _|with_reducible apply t_forIn_array|with_reducible apply t_forIn_range|intro _|split|exact True.intro|dsimp only)
theorem t_Instr_typeAssert (x:Value) (xType asserted:TypeId) (commaOk:Bool):T P (Instr.typeAssert x xType asserted commaOk):=by
 unfold Instr.typeAssert;try dsimp only
 repeat' (first|with_reducible exact Tame.pureT|with_reducible apply Tame.bind|with_reducible apply t_runtimePanic|with_reducible apply t_stuck|with_reducible apply t_typeInfo|with_reducible apply t_underlying|with_reducible apply t_zeroValue|with_reducible apply Tame.map|with_reducible apply t_forIn_array|with_reducible apply t_forIn_range|with_reducible apply t_forIn_list|with_reducible apply t_mapM|with_reducible apply t_mapM_list|with_reducible apply Tame.ite|intro _|split|exact True.intro|dsimp only)
theorem t_Instr_extract (tuple:Value) (index:Nat):T P (Instr.extract tuple index):=by
 unfold Instr.extract;try dsimp only
 repeat' (first|with_reducible exact Tame.pureT|with_reducible apply Tame.bind|with_reducible apply t_Instr_index|with_reducible apply t_stuck|with_reducible apply Tame.map|with_reducible apply t_forIn_array|with_reducible apply t_forIn_range|with_reducible apply t_forIn_list|with_reducible apply t_mapM|with_reducible apply t_mapM_list|with_reducible apply Tame.ite|intro _|split|exact True.intro|dsimp only)
theorem t_Instr_panicnil:T P Instr.panicnil:=by
 unfold Instr.panicnil
 refine ⟨fun r=>?_,_,rfl,fun h=>h⟩
 cases r <;> trivial
theorem t_Instr_panic (x:Value):T P (Instr.panic x):=by
 unfold Instr.panic;try dsimp only
 repeat' (first|with_reducible exact Tame.pureT|with_reducible apply Tame.bind|with_reducible apply t_Instr_panicnil|with_reducible apply t_goPanic|with_reducible apply t_runtimePanic|with_reducible apply t_stuck|with_reducible apply Tame.map|with_reducible apply t_forIn_array|with_reducible apply t_forIn_range|with_reducible apply t_forIn_list|with_reducible apply t_mapM|with_reducible apply t_mapM_list|with_reducible apply Tame.ite|intro _|split|exact True.intro|dsimp only)
end Go.Proofs.YtgnbibinclepcaaGreatDoor.Lf
