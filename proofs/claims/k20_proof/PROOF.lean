import PyProof.Rows.All
import Wide.All
import OpenK.AllK
import Wide.FinOn
import PySem.Challenge.RW_nearandfar_k20_whole_partings_of_things
import PyProof.ZipIter
import PyProof.CallType
import PyProof.Walk
import PyProof.WalkLemmas
import PyProof.RangeIter
import PyProof.RulesTry
import PyProof.CollectStr
import PyProof.TupleOfSeq
import HandS.ForMost
import HandS.Walk
import HandS.ForExc
import HandS.Defaults
import HandS.IsInst
import HandS.Property
import HandS.DictComp
import HandS.Lambda
import HandS.EndTab
import HandS.Wide
import HandS.Deep
import KE.GoesEnum
import HandS.Style
import HandS.Conv
import PyProof.Rows.StrRev
import HandS.SortInts
import HandS.TupAny
import HandS.TupMul
import HandS.WideMore
import HandS.Flt
import HandS.FStr
import KE.KUnpack
import PyProof.FitsInt
import PyProof.Rows.RegFStrParts
import HandS.CallLocal
import KE.GoesNew
import KE.KDictZip
import HandS.GenList
import HandS.ExcValue
import PyProof.PvWalk
import PyProof.MinMaxWalk
import PyProof.WalkInts
import PyProof.StrOps
import PyProof.FString5
import PyProof.StrLawsOcc
import OpenK.KOps
import HandS.Replace
import HandS.More
import KE.SortData
set_option Elab.async false
set_option linter.all false
set_option maxRecDepth 100000
set_option maxHeartbeats 2000000
namespace CpComb
open PySem PySem.Spec
open Sem (wp)

theorem mro_comb : mroOf (.type "itertools.combinations") = pure [.type "itertools.combinations", .type "object"] := by rw [mroOf_type]; kernel_rfl
theorem lookup_comb_new : typeLookup (.type "itertools.combinations") "__new__" = pure (some (.builtin "itertools.combinations.__new__")) := by rw [typeLookup_type, builtinLookup_eq_fast]; kernel_rfl
theorem slot_comb_init : Slot "itertools.combinations" "__init__" "object.__init__" :=
  .of (owner := "object") (n := "__init__") (by rw [typeLookup_type, builtinLookup_eq_fast]; kernel_rfl) (by decide +kernel) (by decide +kernel) (by decide +kernel)
    (by first | exact .inl (by decide +kernel) | exact .inr (by decide +kernel)) (by rw [isSubtype_type]; kernel_rfl)
theorem sub_comb : isSubtype (.type "itertools.combinations") (.type "itertools.combinations") = pure true := by rw [isSubtype_type]; kernel_rfl
theorem called_comb : TypeCalled "itertools.combinations" "itertools.combinations.__new__" "object.__init__" :=
  ⟨by decide +kernel, by decide +kernel, ⟨_, _, mro_comb⟩, madeBy_type mro_comb lookup_comb_new (by decide +kernel), by decide +kernel, sub_comb, slot_comb_init⟩
theorem typeCall_comb_2 (a b : Value) : checkTypeCall "itertools.combinations" ⟨[a, b], []⟩ = pure () := by kernel_rfl
theorem newCall_comb_2 (a b : Value) : checkBuiltinCall "itertools.combinations.__new__" ⟨[.type "itertools.combinations", a, b], []⟩ = pure () := by kernel_rfl
theorem entry_comb_new : entryFor table "itertools.combinations.__new__" = some Builtin.«itertools.combinations.__new__» := entryFor_of_tree (by kernel_rfl)
theorem slot_comb_iter : Slot "itertools.combinations" "__iter__" "itertools.combinations.__iter__" :=
  .of (owner := "itertools.combinations") (n := "__iter__") (by rw [typeLookup_type, builtinLookup_eq_fast]; kernel_rfl) (by decide +kernel) (by decide +kernel) (by decide +kernel)
    (by first | exact .inl (by decide +kernel) | exact .inr (by decide +kernel)) sub_comb
theorem slot_comb_next : Slot "itertools.combinations" "__next__" "itertools.combinations.__next__" :=
  .of (owner := "itertools.combinations") (n := "__next__") (by rw [typeLookup_type, builtinLookup_eq_fast]; kernel_rfl) (by decide +kernel) (by decide +kernel) (by decide +kernel)
    (by first | exact .inl (by decide +kernel) | exact .inr (by decide +kernel)) sub_comb
theorem entry_comb_iter : entryFor table "itertools.combinations.__iter__" = some Builtin.«dict_keyiterator.__iter__» :=
  entryFor_alias (id' := "dict_keyiterator.__iter__") (by kernel_rfl) (by first | rfl | decide +kernel | (unfold String.splitOn; simp +decide [String.splitOnAux])) (by decide +kernel) (by kernel_rfl)
theorem entry_comb_next : entryFor table "itertools.combinations.__next__" = some Builtin.«itertools.combinations.__next__» := entryFor_of_tree (by kernel_rfl)
theorem owner_comb : Manifest.owners.lookup (String.ofList ['s', 'n', 'o', 'i', 't', 'a', 'n', 'i', 'b', 'm', 'o', 'c', '.', 's', 'l', 'o', 'o', 't', 'r', 'e', 't', 'i'].reverse) = some Manifest.sig_itertools_combinations := by kernel_rfl
theorem args_comb_iter (a : Value) : argsOk "itertools.combinations.__iter__" ⟨[a], []⟩ := by
  unfold argsOk; rw [signature?_of (id := "itertools.combinations.__iter__") (n := ['_', '_', 'r', 'e', 't', 'i', '_', '_']) (o := ['s', 'n', 'o', 'i', 't', 'a', 'n', 'i', 'b', 'm', 'o', 'c', '.', 's', 'l', 'o', 'o', 't', 'r', 'e', 't', 'i']) (by kernel_rfl) owner_comb]; kernel_rfl
theorem args_comb_next (a : Value) : argsOk "itertools.combinations.__next__" ⟨[a], []⟩ := by
  unfold argsOk; rw [signature?_of (id := "itertools.combinations.__next__") (n := ['_', '_', 't', 'x', 'e', 'n', '_', '_']) (o := ['s', 'n', 'o', 'i', 't', 'a', 'n', 'i', 'b', 'm', 'o', 'c', '.', 's', 'l', 'o', 'o', 't', 'r', 'e', 't', 'i']) (by kernel_rfl) owner_comb]; kernel_rfl
theorem noDict_comb : typeHasDict (.type "itertools.combinations") = false := by decide +kernel
end CpComb
set_option Elab.async false
set_option linter.all false
set_option maxRecDepth 100000
set_option maxHeartbeats 2000000
namespace CpComb
open PySem PySem.Spec
open Sem (wp)
abbrev combO (pl : Addr) (st : Int) (last : Value) (ix : List Nat) : Obj :=
  { cls := .type "itertools.combinations", dict := none, data := .fields (([.ref pl, .int st 0, last] ++ ix.map fun (i : Nat) => rawInt i).toArray), slots := #[] }
abbrev IsComb (h : Heap) (it pl : Addr) (st : Int) (last : Value) (ix : List Nat) : Prop := h.get? it = some (combO pl st last ix)
abbrev poolO (items : List Value) : Obj := { cls := .type "tuple", data := .seq items.toArray }
abbrev IsPool (h : Heap) (pl : Addr) (items : List Value) : Prop := h.get? pl = some (poolO items)

theorem comb_new {prog : Program} {w : World} (x : Value) (r : Nat) (t : Tok) (hr : r ≤ 1000) :
    MeetsIn prog w (Builtin.«itertools.combinations.__new__» ⟨[.type "itertools.combinations", x, .int r t], []⟩)
      (fun A R s => wpAny (model prog w) A.in1 (collect x) (fun items s1 => items.length ≤ sizeLine ∧ R (.ok (.ret (.ref (s1.heap.push (poolO items)).objs.size)))
        { s1 with heap := (s1.heap.push (poolO items)).push (combO s1.heap.objs.size (if r > items.length then 2 else 0) .none (List.range r)) }) (fun e s1 => R (.error e) s1) s) :=
  .of_wp fun A R s h => by
    have hsub : isSubtype (.type "itertools.combinations") (.type ("itertools." ++ "combinations")) = pure true := sub_comb
    unfold Builtin.«itertools.combinations.__new__»
    refine wpAny_bind ?_
    repeat (first
      | wp_step
      | simp only [List.head?_cons, Option.some_or, List.getElem?_cons_succ, List.getElem?_cons_zero, List.length_cons, List.length_nil, List.forIn_nil])
    have h1 : ¬ ((decide ((r : Int) < -2 ^ 63) || decide ((r : Int) ≥ 2 ^ 63)) = true) := by
      have a : decide ((r : Int) < -2 ^ 63) = false := decide_eq_false (by omega)
      have b : decide ((r : Int) ≥ 2 ^ 63) = false := decide_eq_false (by omega)
      rw [a, b]; decide
    rw [if_neg h1]
    refine wpAny_pure ?_
    refine wpAny_bind (wpAny_mono h (fun items s1 hR => ?_) fun _ _ z => z)
    obtain ⟨hsz, hR⟩ := hR
    have h2 : ¬ ((r : Int) < 0) := by omega
    rw [if_neg h2]
    have h3 : Builtin.Itertools.itTooMany (r : Int) = false := by
      show decide ((r : Int) > 2 ^ 20) = false
      exact decide_eq_false (by omega)
    rw [if_neg (by rw [h3]; decide)]
    refine wpAny_bind (wpAny_newTuple ?_ hsz)
    refine wpAny_pure ?_
    have e : ((r : Int)).toNat = r := Int.toNat_natCast r
    have hnd := noDict_comb
    refine wpAny_bind ?_
    show wpAny _ _ (Builtin.Itertools.itNewRecord (.type "itertools.combinations") ([Value.ref s1.heap.objs.size, rawInt (if (r : Int).toNat > items.length then 2 else 0), Value.none] ++ List.map (fun (i : Nat) => rawInt i) (List.range (r : Int).toNat))) _ _ _
    rw [e]
    unfold Builtin.Itertools.itNewRecord
    rw [hnd]
    rw [if_pos (show (!false) = true from rfl)]
    refine wpAny_newObj_type ?_ ?_
    · exact wpAny_pure ⟨_, rfl, hR⟩
    · have z : sizeLine = 16777216 := sizeLine_eq
      show ([Value.ref s1.heap.objs.size, rawInt (if r > items.length then 2 else 0), Value.none] ++ List.map (fun (i : Nat) => rawInt i) (List.range r)).toArray.size ≤ sizeLine + 2
      rw [List.size_toArray, List.length_append, List.length_map, List.length_range]
      show 3 + r ≤ _
      omega
end CpComb
set_option Elab.async false
set_option linter.all false
set_option maxRecDepth 100000
set_option maxHeartbeats 2000000
namespace CpComb
open PySem PySem.Spec
open Sem (wp)
section
variable {prog : Program} {w : World} {A : Around} {E : Value → Shared → Prop} {s : Shared}
/-- combinations(x, r), x whatever collect takes -/
theorem call_comb {x : Value} {r : Nat} {t : Tok} {Q : Value → Shared → Prop} (hr : r ≤ 1000)
    (h : wpAny (model prog w) A.in1.in1 (collect x) (fun items s1 => items.length ≤ sizeLine ∧ ∀ h', IsPool h' s1.heap.objs.size items → IsComb h' (s1.heap.objs.size + 1) s1.heap.objs.size (if r > items.length then 2 else 0) .none (List.range r) →
      h'.objs.size = s1.heap.objs.size + 2 → (∀ b o, s1.heap.get? b = some o → h'.get? b = some o) → Q (.ref (s1.heap.objs.size + 1)) { s1 with heap := h' }) E s) :
    wpAny (model prog w) A (call (.type "itertools.combinations") [x, .int r t]) Q E s := by
  refine callType_newIn called_comb (by decide +kernel) (typeCall_comb_2 _ _) (newCall_comb_2 _ _) (fun obj => F.args_object_init_3 obj _ _) entry_comb_new (comb_new x r t hr) ?_
  refine wpAny_mono h (fun items s1 h => ?_) fun _ _ z => z
  obtain ⟨hz, h⟩ := h
  refine ⟨hz, ?_⟩
  have z : (s1.heap.push (poolO items)).objs.size = s1.heap.objs.size + 1 := Heap.size_push ..
  have gm : ((s1.heap.push (poolO items)).push (combO s1.heap.objs.size (if r > items.length then 2 else 0) .none (List.range r))).get? (s1.heap.push (poolO items)).objs.size = some (combO s1.heap.objs.size (if r > items.length then 2 else 0) .none (List.range r)) := Heap.get?_push_size _ rfl
  have gT : ((s1.heap.push (poolO items)).push (combO s1.heap.objs.size (if r > items.length then 2 else 0) .none (List.range r))).get? s1.heap.objs.size = some (poolO items) := Heap.get?_push_of_some _ (Heap.get?_push_size _ rfl)
  have z2 : ((s1.heap.push (poolO items)).push (combO s1.heap.objs.size (if r > items.length then 2 else 0) .none (List.range r))).objs.size = s1.heap.objs.size + 2 := by rw [Heap.size_push, z]
  have q := h _ gT (by have gm2 := gm; rw [z] at gm2; exact gm2) z2 fun b o e => Heap.get?_push_of_some _ (Heap.get?_push_of_some _ e)
  show _ ∧ _
  refine ⟨⟨_, gm, rfl⟩, ?_⟩
  rw [z]
  exact q
/-- what stands behind a state: the model's own step, told anew -/
def nxt (n : Nat) (indices : List Nat) : Option (List Nat) :=
  match (List.range indices.length).reverse.find? fun i => indices.getD i 0 != i + n - indices.length with
  | none => none
  | some i => some (indices.take i ++ (List.range (indices.length - i)).map (indices.getD i 0 + 1 + ·))
def rowOf (items : List Value) (ix : List Nat) : List Value := ix.map fun i => items.toArray.getD i .none
theorem nums_of (f : Value → Nat) (hf : ∀ n : Nat, f (rawInt n) = n) (pl : Addr) (st : Int) (last : Value) (ix : List Nat) : List.map f (List.drop 3 (([Value.ref pl, .int st 0, last] ++ ix.map fun (i : Nat) => rawInt i).toArray).toList) = ix := by
  rw [List.toList_toArray]
  show List.map f (ix.map fun (i : Nat) => rawInt i) = ix
  rw [List.map_map]
  induction ix with
  | nil => rfl
  | cons a l ih =>
    rw [List.map_cons, ih]
    show f (rawInt a) :: l = a :: l
    rw [hf]
theorem wp_numbers {it pl : Addr} {st : Int} {last : Value} {ix : List Nat} {Q : List Nat → Shared → Prop} (hit : IsComb s.heap it pl st last ix) (h : Q ix s) : wpAny (model prog w) A (Builtin.Itertools.itNumbersFrom (.ref it) 3) Q E s := by
  unfold Builtin.Itertools.itNumbersFrom
  show wpAny _ _ (load it >>= _) _ _ s
  refine wpAny_bind (wpAny_load hit ?_)
  refine wpAny_pure ?_
  rw [nums_of _ (fun n => rfl)]
  exact h
theorem rows_of (items : List Value) (ix : List Nat) : (ix.map fun i => (items.toArray.getD i .none)) = rowOf items ix := rfl
/-- what a row's handing out does: the row is made, it takes the elder one's place -/
theorem wp_handOut {it pl : Addr} {st : Int} {last : Value} {items : List Value} {ix jx : List Nat} {Q : Value → Shared → Prop} (hit : IsComb s.heap it pl st last jx) (hpl : IsPool s.heap pl items) (hsz : ix.length ≤ sizeLine)
    (hQ : ∀ h', IsComb h' it pl st (.ref s.heap.objs.size) jx → h'.get? s.heap.objs.size = some (poolO (rowOf items ix)) → h'.objs.size = s.heap.objs.size + 1 → (∀ b o, b ≠ it → s.heap.get? b = some o → h'.get? b = some o) → Q (.ref s.heap.objs.size) { s with heap := h' }) :
    wpAny (model prog w) A (do
      let result ← (do let items ← Builtin.Itertools.itPoolItems (.ref pl); newTuple (ix.map fun i => items.getD i .none))
      let before ← field (.ref it) 2
      setField (.ref it) 2 result
      letGo [before] [result]
      ret result) (fun fin s' => ∃ v, fin = Fin.done (Flow.ret v) ∧ Q v s') E s := by
  have hpT : s.TypeIs (.ref pl) "tuple" := ⟨_, hpl, rfl⟩
  refine wpAny_bind (wpAny_bind ?_)
  unfold Builtin.Itertools.itPoolItems
  refine wpAny_bind ?_
  show wpAny _ _ (load pl >>= _) _ _ s
  refine wpAny_bind (wpAny_load hpl ?_)
  refine wpAny_pure (wpAny_pure ?_)
  refine wpAny_newTuple ?_ (by rw [List.length_map]; exact hsz)
  have hlt : it < s.heap.objs.size := Heap.lt_size hit
  have hit2 : IsComb (s.heap.push (poolO (rowOf items ix))) it pl st last jx := Heap.get?_push_of_some _ hit
  refine wpAny_bind (wpAny_field hit2 rfl (x := last) rfl ?_)
  refine wpAny_bind (wpAny_setField hit2 rfl (by simp) ?_)
  refine wpAny_bind (wpAny_letGo ?_)
  refine wpAny_pure ⟨_, rfl, ?_⟩
  have up := Heap.get?_update_self (Obj.mapFields fun x => x.setIfInBounds 2 (.ref s.heap.objs.size)) hit2 rfl
  have sb := Heap.SameBut.update (h := s.heap.push (poolO (rowOf items ix))) it (Obj.mapFields fun x => x.setIfInBounds 2 (.ref s.heap.objs.size))
  refine hQ _ ?_ ?_ ?_ fun b o hb e => (sb.2 b hb).trans (Heap.get?_push_of_some _ e)
  · refine Eq.trans up ?_
    simp [Obj.mapFields, combO]
  · exact (sb.2 _ (Nat.ne_of_gt hlt)).trans (Heap.get?_push_size _ rfl)
  · exact sb.1.trans (Heap.size_push ..)
theorem comb_first {it pl : Addr} {items : List Value} {ix : List Nat} {Q : Option Value → Shared → Prop} (hit : IsComb s.heap it pl 0 .none ix) (hpl : IsPool s.heap pl items) (hsz : ix.length ≤ sizeLine)
    (hQ : ∀ h', IsComb h' it pl 1 (.ref s.heap.objs.size) ix → h'.get? s.heap.objs.size = some (poolO (rowOf items ix)) → h'.objs.size = s.heap.objs.size + 1 → (∀ b o, b ≠ it → s.heap.get? b = some o → h'.get? b = some o) → Q (some (.ref s.heap.objs.size)) { s with heap := h' }) :
    wpAny (model prog w) A (pyNext (.ref it)) Q E s := by
  have hT : s.TypeIs (.ref it) "itertools.combinations" := ⟨_, hit, rfl⟩
  unfold pyNext
  refine wpAny_bind (wpAny_attempt (wpAny_callSpecial?_slot (name := Str.ofString "__next__") hT slot_comb_next (wpAny_call_entry slot_comb_next hT entry_comb_next ?_ (args_comb_next _))))
  show wpAny _ _ (field (.ref it) 0 >>= _) _ _ s
  refine wpAny_bind (wpAny_field hit rfl (x := .ref pl) rfl ?_)
  refine wpAny_bind (wp_numbers hit ?_)
  show wpAny _ _ (Builtin.Itertools.itIntField (Value.ref it) 1 >>= _) _ _ s
  refine wpAny_bind ?_
  unfold Builtin.Itertools.itIntField
  refine wpAny_bind (wpAny_field hit rfl (x := .int 0 0) rfl ?_)
  refine wpAny_pure ?_
  show wpAny _ _ (setField (Value.ref it) 1 (rawInt 1) >>= _) _ _ s
  refine wpAny_bind (wpAny_setField hit rfl (by simp) ?_)
  have sb := Heap.SameBut.update (h := s.heap) it (Obj.mapFields fun x => x.setIfInBounds 1 (rawInt 1))
  have hit1 : IsComb (s.heap.update it (Obj.mapFields fun x => x.setIfInBounds 1 (rawInt 1))) it pl 1 .none ix := by
    refine Eq.trans (Heap.get?_update_self _ hit rfl) ?_
    simp [Obj.mapFields, combO, rawInt]
  have hne : pl ≠ it := fun q => by rw [q] at hpl; exact absurd (Value.type.inj (congrArg Obj.cls (Option.some.inj (hit.symm.trans hpl)))) (by decide)
  have hpl1 : IsPool (s.heap.update it (Obj.mapFields fun x => x.setIfInBounds 1 (rawInt 1))) pl items := (sb.2 pl hne).trans hpl
  refine wp_handOut (s := { s with heap := s.heap.update it (Obj.mapFields fun x => x.setIfInBounds 1 (rawInt 1)) }) (Q := fun v s' => wpAny (model prog w) A (pure (some v)) Q E s') hit1 hpl1 hsz fun h' g1 g2 g3 g4 => ?_
  have es : (s.heap.update it (Obj.mapFields fun x => x.setIfInBounds 1 (rawInt 1))).objs.size = s.heap.objs.size := sb.1
  refine wpAny_pure ?_
  show Q (some (.ref (s.heap.update it (Obj.mapFields fun x => x.setIfInBounds 1 (rawInt 1))).objs.size)) { s with heap := h' }
  simp only [es] at g1 g2 g3 ⊢
  exact hQ h' g1 g2 g3 fun b o hb e => g4 b o hb ((sb.2 b hb).trans e)
theorem comb_step {it pl : Addr} {last : Value} {items : List Value} {ix jx : List Nat} {Q : Option Value → Shared → Prop} (hit : IsComb s.heap it pl 1 last ix) (hpl : IsPool s.heap pl items) (hsz : jx.length ≤ sizeLine) (hn : nxt items.length ix = some jx)
    (hQ : ∀ h', IsComb h' it pl 1 (.ref s.heap.objs.size) jx → h'.get? s.heap.objs.size = some (poolO (rowOf items jx)) → h'.objs.size = s.heap.objs.size + 1 → (∀ b o, b ≠ it → s.heap.get? b = some o → h'.get? b = some o) → Q (some (.ref s.heap.objs.size)) { s with heap := h' }) :
    wpAny (model prog w) A (pyNext (.ref it)) Q E s := by
  have hT : s.TypeIs (.ref it) "itertools.combinations" := ⟨_, hit, rfl⟩
  have hne : pl ≠ it := fun q => by rw [q] at hpl; exact absurd (Value.type.inj (congrArg Obj.cls (Option.some.inj (hit.symm.trans hpl)))) (by decide)
  unfold pyNext
  refine wpAny_bind (wpAny_attempt (wpAny_callSpecial?_slot (name := Str.ofString "__next__") hT slot_comb_next (wpAny_call_entry slot_comb_next hT entry_comb_next ?_ (args_comb_next _))))
  show wpAny _ _ (field (.ref it) 0 >>= _) _ _ s
  refine wpAny_bind (wpAny_field hit rfl (x := .ref pl) rfl ?_)
  refine wpAny_bind (wp_numbers hit ?_)
  show wpAny _ _ (Builtin.Itertools.itIntField (Value.ref it) 1 >>= _) _ _ s
  refine wpAny_bind ?_
  unfold Builtin.Itertools.itIntField
  refine wpAny_bind (wpAny_field hit rfl (x := .int 1 0) rfl ?_)
  refine wpAny_pure ?_
  show wpAny _ _ (Builtin.Itertools.itPoolItems (Value.ref pl) >>= _) _ _ s
  refine wpAny_bind ?_
  unfold Builtin.Itertools.itPoolItems
  refine wpAny_bind ?_
  show wpAny _ _ (load pl >>= _) _ _ s
  refine wpAny_bind (wpAny_load hpl ?_)
  refine wpAny_pure (wpAny_pure ?_)
  show wpAny _ _ (match nxt items.toArray.size ix with | some next => _ | none => _) _ _ _
  rw [List.size_toArray, hn]
  show wpAny _ _ (Builtin.Itertools.itSetNumbersFrom (Value.ref it) 3 jx >>= _) _ _ s
  refine wpAny_bind ?_
  unfold Builtin.Itertools.itSetNumbersFrom
  have z : sizeLine = 16777216 := sizeLine_eq
  refine wpAny_updateFields hit rfl ?_ ?_
  · have sb := Heap.SameBut.update (h := s.heap) it (Obj.mapFields fun fs => fs.extract 0 3 ++ (List.map (fun (n : Nat) => rawInt n) jx).toArray)
    have hit1 : IsComb (s.heap.update it (Obj.mapFields fun fs => fs.extract 0 3 ++ (List.map (fun (n : Nat) => rawInt n) jx).toArray)) it pl 1 last jx := by
      refine Eq.trans (Heap.get?_update_self _ hit rfl) ?_
      simp [Obj.mapFields, combO, rawInt]
    have hpl1 : IsPool (s.heap.update it (Obj.mapFields fun fs => fs.extract 0 3 ++ (List.map (fun (n : Nat) => rawInt n) jx).toArray)) pl items := (sb.2 pl hne).trans hpl
    refine wp_handOut (s := { s with heap := s.heap.update it (Obj.mapFields fun fs => fs.extract 0 3 ++ (List.map (fun (n : Nat) => rawInt n) jx).toArray) }) (Q := fun v s' => wpAny (model prog w) A (pure (some v)) Q E s') hit1 hpl1 hsz fun h' g1 g2 g3 g4 => ?_
    have es : (s.heap.update it (Obj.mapFields fun fs => fs.extract 0 3 ++ (List.map (fun (n : Nat) => rawInt n) jx).toArray)).objs.size = s.heap.objs.size := sb.1
    refine wpAny_pure ?_
    show Q (some (.ref (s.heap.update it (Obj.mapFields fun fs => fs.extract 0 3 ++ (List.map (fun (n : Nat) => rawInt n) jx).toArray)).objs.size)) { s with heap := h' }
    simp only [es] at g1 g2 g3 ⊢
    exact hQ h' g1 g2 g3 fun b o hb e => g4 b o hb ((sb.2 b hb).trans e)
  · show ((([Value.ref pl, .int 1 0, last] ++ ix.map fun (i : Nat) => rawInt i).toArray).extract 0 3 ++ (List.map (fun (n : Nat) => rawInt n) jx).toArray).size ≤ sizeLine + 3
    rw [Array.size_append]
    have a : ((([Value.ref pl, .int 1 0, last] ++ ix.map fun (i : Nat) => rawInt i).toArray).extract 0 3).size ≤ 3 := by rw [Array.size_extract]; omega
    have b : (List.map (fun (n : Nat) => rawInt n) jx).toArray.size = jx.length := by rw [List.size_toArray, List.length_map]
    omega
/-- the end, met for the first time -/
theorem comb_end {it pl : Addr} {last : Value} {items : List Value} {ix : List Nat} {Q : Option Value → Shared → Prop} (hh : A.handled = none) (hit : IsComb s.heap it pl 1 last ix) (hpl : IsPool s.heap pl items) (hn : nxt items.length ix = none)
    (hQ : ∀ h', Heap.ExtBut it s.heap h' → Q none { s with heap := h' }) : wpAny (model prog w) A (pyNext (.ref it)) Q E s := by
  have hT : s.TypeIs (.ref it) "itertools.combinations" := ⟨_, hit, rfl⟩
  have hh1 : A.in1.handled = none := hh
  unfold pyNext
  refine wpAny_bind (wpAny_attempt (wpAny_callSpecial?_slot (name := Str.ofString "__next__") hT slot_comb_next (wpAny_call_entry slot_comb_next hT entry_comb_next ?_ (args_comb_next _))))
  show wpAny _ _ (field (.ref it) 0 >>= _) _ _ s
  refine wpAny_bind (wpAny_field hit rfl (x := .ref pl) rfl ?_)
  refine wpAny_bind (wp_numbers hit ?_)
  show wpAny _ _ (Builtin.Itertools.itIntField (Value.ref it) 1 >>= _) _ _ s
  refine wpAny_bind ?_
  unfold Builtin.Itertools.itIntField
  refine wpAny_bind (wpAny_field hit rfl (x := .int 1 0) rfl ?_)
  refine wpAny_pure ?_
  show wpAny _ _ (Builtin.Itertools.itPoolItems (Value.ref pl) >>= _) _ _ s
  refine wpAny_bind ?_
  unfold Builtin.Itertools.itPoolItems
  refine wpAny_bind ?_
  show wpAny _ _ (load pl >>= _) _ _ s
  refine wpAny_bind (wpAny_load hpl ?_)
  refine wpAny_pure (wpAny_pure ?_)
  show wpAny _ _ (match nxt items.toArray.size ix with | some next => _ | none => _) _ _ _
  rw [List.size_toArray, hn]
  show wpAny _ _ (setField (Value.ref it) 1 (rawInt 2) >>= _) _ _ s
  refine wpAny_bind (wpAny_setField hit rfl (by simp) ?_)
  have sb := Heap.SameBut.update (h := s.heap) it (Obj.mapFields fun x => x.setIfInBounds 1 (rawInt 2))
  show wpAny _ _ (newExc (.type "StopIteration") [] >>= _) _ _ _
  refine wpAny_bind ?_
  simp only [newExc, newTuple]
  refine wpAny_bind (wpAny_newObj_type ?_ (by size_fits))
  refine wpAny_bind (m := firstArgMember _ _) (wpAny_of_eq (a := Value.none) (by first | rfl | (simp only [firstArgMember]; rfl)) ?_)
  refine wpAny_newObj_type ?_ (by size_fits)
  simp only [raiseNew]
  refine wpAny_bind (wpAny_handled ?_)
  first | rw [hh1] | rw [hh]
  refine wpAny_bind (wpAny_pure (wpAny_throw ?_))
  refine wpAny_bind (wpAny_isInstance (T := "StopIteration") (b := true) ⟨_, Heap.get?_push_size _ rfl, rfl⟩ isSubtype_stop ?_)
  refine wpAny_pure (hQ _ fun b o hb e => ?_)
  exact Heap.get?_push_of_some _ (Heap.get?_push_of_some _ ((sb.2 b hb).trans e))
/-- a length beyond the items: nothing at all -/
theorem comb_none {it pl : Addr} {last : Value} {items : List Value} {ix : List Nat} {Q : Option Value → Shared → Prop} (hh : A.handled = none) (hit : IsComb s.heap it pl 2 last ix)
    (hQ : ∀ h', Heap.ExtBut it s.heap h' → Q none { s with heap := h' }) : wpAny (model prog w) A (pyNext (.ref it)) Q E s := by
  have hT : s.TypeIs (.ref it) "itertools.combinations" := ⟨_, hit, rfl⟩
  have hh1 : A.in1.handled = none := hh
  unfold pyNext
  refine wpAny_bind (wpAny_attempt (wpAny_callSpecial?_slot (name := Str.ofString "__next__") hT slot_comb_next (wpAny_call_entry slot_comb_next hT entry_comb_next ?_ (args_comb_next _))))
  show wpAny _ _ (field (.ref it) 0 >>= _) _ _ s
  refine wpAny_bind (wpAny_field hit rfl (x := .ref pl) rfl ?_)
  refine wpAny_bind (wp_numbers hit ?_)
  show wpAny _ _ (Builtin.Itertools.itIntField (Value.ref it) 1 >>= _) _ _ s
  refine wpAny_bind ?_
  unfold Builtin.Itertools.itIntField
  refine wpAny_bind (wpAny_field hit rfl (x := .int 2 0) rfl ?_)
  refine wpAny_pure ?_
  show wpAny _ _ (rule _ >>= _) _ _ _
  refine wpAny_bind (wpAny_rule ?_)
  show wpAny _ _ (newExc (.type "StopIteration") [] >>= _) _ _ _
  refine wpAny_bind ?_
  simp only [newExc, newTuple]
  refine wpAny_bind (wpAny_newObj_type ?_ (by size_fits))
  refine wpAny_bind (m := firstArgMember _ _) (wpAny_of_eq (a := Value.none) (by first | rfl | (simp only [firstArgMember]; rfl)) ?_)
  refine wpAny_newObj_type ?_ (by size_fits)
  simp only [raiseNew]
  refine wpAny_bind (wpAny_handled ?_)
  first | rw [hh1] | rw [hh]
  refine wpAny_bind (wpAny_pure (wpAny_throw ?_))
  refine wpAny_bind (wpAny_isInstance (T := "StopIteration") (b := true) ⟨_, Heap.get?_push_size _ rfl, rfl⟩ isSubtype_stop ?_)
  refine wpAny_pure (hQ _ fun b o hb e => ?_)
  exact Heap.get?_push_of_some _ (Heap.get?_push_of_some _ e)
theorem comb_iter {it pl : Addr} {st : Int} {last : Value} {ix : List Nat} {Q : Value → Shared → Prop} (hit : IsComb s.heap it pl st last ix) (h : Q (.ref it) s) : wpAny (model prog w) A (pyIter (.ref it)) Q E s := by
  have hT : s.TypeIs (.ref it) "itertools.combinations" := ⟨_, hit, rfl⟩
  refine wpAny_pyIter_slot hT slot_comb_iter (wpAny_call_entry slot_comb_iter hT entry_comb_iter ?_ (args_comb_iter _))
  show wpAny _ _ (ret (.ref it)) _ _ s
  exact wpAny_pure ⟨_, rfl, "itertools.combinations", _, hT, slot_comb_next.lookup, h⟩
end
end CpComb
set_option Elab.async false
set_option linter.all false
set_option maxRecDepth 100000
set_option maxHeartbeats 2000000
namespace L2
open PySem PySem.Spec PyProof.Rows CpComb
/-- the rows of places that combinations(x, r) of n items goes through -/
structure Chain (n r : Nat) (rows : List (List Nat)) : Prop where
  len : ∀ ix ∈ rows, ix.length ≤ sizeLine
  emp : n < r → rows = []
  first : r ≤ n → rows[0]? = some (List.range r)
  step : ∀ (i : Nat) ix, rows[i]? = some ix → nxt n ix = rows[i + 1]?
def rowV (xs : List V) (ix : List Nat) : List V := ix.map fun i => xs.getD i .non
theorem rowV_rel {xs : List V} {items : List Value} (r : Vals xs items) : ∀ ix : List Nat, Vals (rowV xs ix) (rowOf items ix)
  | [] => .nil
  | i :: l => by
    refine .cons ?_ (rowV_rel r l)
    show RelV (xs.getD i .non) (items.toArray.getD i .none)
    have e : items.toArray.getD i .none = items.getD i .none := by
      simp [Array.getD, List.getD]
      split <;> simp_all
    rw [e]
    cases h : xs[i]? with
    | none =>
      have h2 := r.none_of h
      rw [List.getD_eq_getElem?_getD, List.getD_eq_getElem?_getD, h, h2]
      rfl
    | some x =>
      obtain ⟨u, hu, ru⟩ := r.get h
      rw [List.getD_eq_getElem?_getD, List.getD_eq_getElem?_getD, h, hu]
      exact ru
/-- at turn i a new tuple of the i-th row -/
def Itcb (xs : List V) (rows : List (List Nat)) : It :=
  ⟨fun i _ => i < rows.length, fun i H v H' => ∃ T ix, v = .ref T ∧ H T = none ∧ H' = upd H T (.tup (rowV xs ix)) ∧ rows[i]? = some ix, fun i _ => rows.length ≤ i⟩
def CombTn (n r : Nat) (rows : List (List Nat)) (items : List Value) (it pl : Addr) (i : Nat) (h : Heap) : Prop :=
  IsPool h pl items ∧ ((i = 0 ∧ IsComb h it pl (if r > n then 2 else 0) .none (List.range r)) ∨ ∃ j last ix, i = j + 1 ∧ rows[j]? = some ix ∧ IsComb h it pl 1 last ix)
theorem go_comb {M : Model} {A : Around} {E : Value → Shared → Prop} {s : Shared} {tg : Expr} {it pl : Addr} {st : Int} {last : Value} {ix : List Nat} {u : Value} {Q : Unit → Shared → Prop} (hit : IsComb s.heap it pl st last ix) (hQ : Q () s) : wpAny M A (letOwnedTupleGo tg (.ref it) u) Q E s :=
  go_of hit rfl rfl (by decide) hQ
theorem turn_comb {P : Program} {w : World} {K : PySem.W.Frag} {tg : Expr} {it pl : Addr} {xs : List V} {items : List Value} {r : Nat} {rows : List (List Nat)} (hne : pl ≠ it) (rv : Vals xs items) (hr : r ≤ 1000) (ch : Chain items.length r rows) :
    Turn P w K tg (Itcb xs rows) [it, pl] it (CombTn items.length r rows items it pl) where
  mem := by simp
  obj := fun i h st c hc => by
    obtain ⟨hp, hi⟩ := st
    have e' : c = it ∨ c = pl := by simpa using hc
    rcases e' with q | q
    · rw [q]
      rcases hi with ⟨_, hi⟩ | ⟨_, _, _, _, _, hi⟩
      · exact ⟨_, hi, fun v q => nomatch q⟩
      · exact ⟨_, hi, fun v q => nomatch q⟩
    · rw [q]; exact ⟨_, hp, fun v q => nomatch q⟩
  keep := fun i h h' st k => by
    obtain ⟨hp, hi⟩ := st
    refine ⟨k pl (by simp) _ hp, ?_⟩
    rcases hi with ⟨e, hi⟩ | ⟨j, last, ix, e, g, hi⟩
    · exact .inl ⟨e, k it (by simp) _ hi⟩
    · exact .inr ⟨j, last, ix, e, g, k it (by simp) _ hi⟩
  item := by
    intro X hP hw hK hc i pins s σ H E I hf st hg
    subst hP hw hK
    obtain ⟨hp, hi⟩ := st
    have hg' : i < rows.length := hg
    have fin : ∀ (h' : Heap) (ix : List Nat), rows[i]? = some ix → IsComb h' it pl 1 (.ref s.heap.objs.size) ix → h'.get? s.heap.objs.size = some (poolO (rowOf items ix)) → h'.objs.size = s.heap.objs.size + 1 → (∀ b o, b ≠ it → s.heap.get? b = some o → h'.get? b = some o) → it < s.heap.objs.size →
        ∃ u, some (Value.ref s.heap.objs.size) = some u ∧ wpAny (model X.prog X.w) X.A (letOwnedTupleGo tg (.ref it) u) (fun _ s2 => ∃ x H', Inv X pins σ H' s2 ∧ RelV x u ∧ (Itcb xs rows).yld i H x H' ∧ CombTn items.length r rows items it pl (i + 1) s2.heap ∧ ∀ b ∈ [it, pl], H' b = none) E { s with heap := h' } := by
      intro h' ix hx g1 g2 g3 g4 hlt
      have new : ObjOk X.prog X.w (upd H s.heap.objs.size (.tup (rowV xs ix))) h' s.heap.objs.size (.tup (rowV xs ix)) :=
        ⟨by rw [rowV, List.length_map]; exact ch.len ix (List.mem_of_getElem? hx), rowOf items ix, rowV_rel rv ix, ⟨_, g2, rfl, _, rfl⟩⟩
      have I1 : Inv X pins σ (upd H s.heap.objs.size (.tup (rowV xs ix))) { s with heap := h' } :=
        I.turnedNew (t' := s.toks) (ch := [it]) (fun c o hb q => g4 c o (by simpa using hb) q) (fun b hb => hf b (by simp at hb; simp [hb])) (Nat.le_refl _) new
      refine ⟨_, rfl, go_comb (s := { s with heap := h' }) g1 ⟨.ref s.heap.objs.size, _, I1, rfl, ⟨_, ix, rfl, I.hok.fresh (Nat.le_refl _), rfl, hx⟩, ⟨g4 pl _ hne hp, .inr ⟨i, _, ix, rfl, hx, g1⟩⟩, fun b hb => ?_⟩⟩
      have hbl : b < s.heap.objs.size := by
        have e' : b = it ∨ b = pl := by simpa using hb
        rcases e' with q | q
        · rw [q]; exact hlt
        · rw [q]; exact Heap.lt_size hp
      rw [upd_ne (Nat.ne_of_lt hbl)]
      exact (hf b hb).1
    rcases hi with ⟨e, hi⟩ | ⟨j, last, ix, e, g, hi⟩
    · subst e
      have hrn : r ≤ items.length := by
        by_cases hq : items.length < r
        · rw [ch.emp hq] at hg'; exact absurd hg' (Nat.not_lt_zero _)
        · omega
      rw [if_neg (by omega)] at hi
      have h0 := ch.first hrn
      exact comb_first hi hp (ch.len _ (List.mem_of_getElem? h0)) fun h' g1 g2 g3 g4 => fin h' _ h0 g1 g2 g3 g4 (Heap.lt_size hi)
    · subst e
      have hx : rows[j + 1]? = some rows[j + 1] := List.getElem?_eq_getElem hg'
      exact comb_step hi hp (ch.len _ (List.mem_of_getElem? hx)) ((ch.step j ix g).trans hx) fun h' g1 g2 g3 g4 => fin h' _ hx g1 g2 g3 g4 (Heap.lt_size hi)
  done := by
    intro X hP hw hK hc i pins s σ H E I hf st hg
    subst hP hw hK
    obtain ⟨hp, hi⟩ := st
    have hg' : rows.length ≤ i := hg
    have fin : ∀ h', Heap.ExtBut it s.heap h' → (none : Option Value) = none ∧ Inv X pins σ H { s with heap := h' } := fun h' eb =>
      ⟨rfl, I.turnedL (t' := s.toks) (ch := [it]) (fun c o hb q => eb c o (by simpa using hb) q) (fun b hb => hf b (by simp at hb; simp [hb]))⟩
    rcases hi with ⟨e, hi⟩ | ⟨j, last, ix, e, g, hi⟩
    · subst e
      have hrn : items.length < r := by
        by_cases hq : r ≤ items.length
        · have h0 := ch.first hq
          have := (List.getElem?_eq_some_iff.mp h0).1
          omega
        · omega
      rw [if_pos hrn] at hi
      exact comb_none (items := items) (I.ok.hd hc) hi fin
    · subst e
      refine comb_end (I.ok.hd hc) hi hp ?_ fin
      rw [ch.step j ix g]
      exact List.getElem?_eq_none hg'
  self := fun A i s Q E st h => by
    obtain ⟨hp, hi⟩ := st
    rcases hi with ⟨_, hi⟩ | ⟨_, _, _, _, _, hi⟩
    · exact comb_iter hi h
    · exact comb_iter hi h
/-- what combinations takes: a text (its signs), a list, a tuple -/
def Src (K : PySem.W.Frag) (H : Hp) (x : V) (xs : List V) : Prop :=
  match x with
  | .str z => z.cps.size ≤ sizeLine ∧ xs = z.cps.toList.map fun c => V.str ⟨#[c]⟩
  | .ref a => SqL K H a xs ∨ SqT K H a xs
  | _ => False
theorem collect_src {X : Cx} {pins : List (Addr × Obj)} {σ : St} {H : Hp} {s : Shared} {A : Around} {x : V} {u : Value} {xs : List V} {Q : List Value → Shared → Prop} {E : Value → Shared → Prop} (hh : A.handled = none) (I : Inv X pins σ H s) (rx : RelV x u) (h : Src X.K H x xs)
    (hq : ∀ items s1, Inv X pins σ H s1 → Vals xs items → items.length ≤ sizeLine → Q items s1) : wpAny (model X.prog X.w) A (collect u) Q E s := by
  cases x with
  | str z =>
    obtain ⟨t, rfl⟩ := rx
    obtain ⟨hz, rfl⟩ := h
    refine wpAny_collect_str hh z t (fun s' acc k g1 g2 g3 hacc => ?_) hz
    have e : s' = { s with heap := s'.heap, toks := s'.toks } := by
      cases s'; cases s; simp_all
    rw [e]
    refine hq _ _ (I.kept k) ?_ (by rw [Array.length_toList, hacc.1]; exact hz)
    -- the signs
    obtain ⟨hs, ha⟩ := hacc
    have main : ∀ (l : List Nat) (us : List Value), us.length = l.length → (∀ (j : Nat) (v : Value), us[j]? = some v → ∃ (c : Nat) (t : Tok), l[j]? = some c ∧ v = Value.str ⟨#[c]⟩ t) → Vals (l.map fun c => V.str ⟨#[c]⟩) us := by
      intro l
      induction l with
      | nil =>
        intro us hl _
        cases us with
        | nil => exact .nil
        | cons a b => cases hl
      | cons c l ih =>
        intro us hl hj
        cases us with
        | nil => cases hl
        | cons a b =>
          obtain ⟨c', t', e1, e2⟩ := hj 0 a rfl
          cases e1
          subst e2
          exact .cons ⟨t', rfl⟩ (ih b (Nat.succ.inj hl) fun j v hv => hj (j + 1) v hv)
    refine main _ _ (by rw [Array.length_toList, hs, Array.length_toList]) fun j v hv => ?_
    obtain ⟨c, t', e1, e2⟩ := ha j v (by simpa using hv)
    exact ⟨c, t', by simpa using e1, e2⟩
  | ref a =>
    obtain rfl : u = Value.ref a := rx
    rcases h with h | h
    · obtain ⟨its, rv, ⟨o, n, ho, hc, hn, hd⟩, hz⟩ := I.list h
      have hz' : its.toArray.size ≤ sizeLine := by rw [List.size_toArray, ← rv.length]; exact hz
      refine wpAny_collect_seq a (.inl rfl) ho hc hd (fun h' k => ?_) hz'
      exact hq _ _ (I.kept (t' := s.toks) k) rv (by rw [List.toList_toArray, ← rv.length]; exact hz)
    · obtain ⟨its, rv, ⟨o, ho, hc, n, hd⟩, hz⟩ := I.tuple h
      have hz' : its.toArray.size ≤ sizeLine := by rw [List.size_toArray, ← rv.length]; exact hz
      refine wpAny_collect_seq a (.inr rfl) ho hc hd (fun h' k => ?_) hz'
      exact hq _ _ (I.kept (t' := s.toks) k) rv (by rw [List.toList_toArray, ← rv.length]; exact hz)
  | _ => exact h.elim
def iComb (K : PySem.W.Frag) (ta : TA) : TI := fun σ H R => ta σ H fun vs H1 => ∃ (x : V) (r : Nat) (xs : List V) (rows : List (List Nat)), vs = [x, .int r] ∧ r ≤ 1000 ∧ Src K H1 x xs ∧ Chain xs.length r rows ∧ R (Itcb xs rows) H1
theorem pi_comb {X : Cx} {tg e e2 : Expr} {ta : TA} {p pos : Pos} (hc : X.calm = true) (hg : Gl X "combinations") (hm : X.mg "combinations" = some (.type "itertools.combinations")) (ha : PA X [e, e2] ta)
    (hs : starEach [e, e2] X.env = (false, eval e X.env) :: starEach [e2] X.env := by rfl) (hpl : (backTo pos (starEach [e2] X.env)).any (·.1) = false := by rfl) :
    PI X tg (.Call (.Name "combinations" p) [e, e2] [] pos) (iComb X.K ta) := by
  refine ⟨fun pins s σ H R I h => ?_⟩
  refine Call_ (ld_glob I hg hm (PyProof.Rows.callWith_type1 (thn (ha.run pos pins s σ H _ I h) fun us s1 ⟨vs, H1, I1, r1, q1⟩ => ?_) hs hpl))
  obtain ⟨x, r, xs, rows, ex, hr, hsrc, ch, q⟩ := q1
  subst ex
  cases r1 with
  | cons rx rr =>
    cases rr with
    | cons ri rr =>
      cases rr
      obtain ⟨t, rfl⟩ := ri
      refine call_comb hr (collect_src (I1.ok.hd hc) I1 rx hsrc fun items s2 I2 rv hz => ⟨hz, fun h' hp hit hsz hk => ?_⟩)
      have hl : xs.length = items.length := rv.length
      have I3 : Inv X pins σ H1 { s2 with heap := h' } := I2.kept (t' := s2.toks) hk
      refine comb_iter hit ?_
      refine ⟨s2.heap.objs.size + 1, [s2.heap.objs.size + 1, s2.heap.objs.size], _, _, H1, rfl, I3, turn_comb (by simp) rv hr (hl ▸ ch), ⟨hp, .inl ⟨rfl, hit⟩⟩, fun c hcm => ?_, q⟩
      have e' : c = s2.heap.objs.size + 1 ∨ c = s2.heap.objs.size := by simpa using hcm
      have hle : s2.heap.objs.size ≤ c := by
        rcases e' with z | z
        · rw [z]; exact Nat.le_add_right _ _
        · rw [z]; exact Nat.le_refl _
      exact I2.fpOk hle (I2.hok.fresh hle)
theorem walk_comb {xs : List V} {rows : List (List Nat)} : Walk (Itcb xs rows) rows.length (fun _ => True) (fun i H v H' => ∃ T ix, v = .ref T ∧ H T = none ∧ H' = upd H T (.tup (rowV xs ix)) ∧ rows[i]? = some ix) :=
  ⟨fun _ _ hi _ => hi, fun _ _ => Nat.le_refl _, fun _ _ _ _ _ _ y => y⟩
/-! ### the rows themselves -/
def combIx : Nat → List Nat → List (List Nat)
  | 0, _ => [[]]
  | _ + 1, [] => []
  | r + 1, a :: l => (combIx r l).map (a :: ·) ++ combIx (r + 1) l
def chainB (n r : Nat) (rows : List (List Nat)) : Bool :=
  rows.all (fun ix => decide (ix.length ≤ 1000)) && (if n < r then rows.isEmpty else decide (rows[0]? = some (List.range r))) && (List.range rows.length).all fun i => decide (nxt n (rows.getD i []) = rows[i + 1]?)
theorem chain_of {n r : Nat} {rows : List (List Nat)} (h : chainB n r rows = true) : Chain n r rows := by
  unfold chainB at h
  rw [Bool.and_eq_true, Bool.and_eq_true] at h
  obtain ⟨⟨h1, h2⟩, h3⟩ := h
  refine ⟨fun ix hx => ?_, fun hn => ?_, fun hn => ?_, fun i ix hx => ?_⟩
  · have := List.all_eq_true.mp h1 ix hx
    have z : sizeLine = 16777216 := sizeLine_eq
    have := of_decide_eq_true this
    omega
  · rw [if_pos hn] at h2
    exact List.isEmpty_iff.mp h2
  · rw [if_neg (by omega)] at h2
    exact of_decide_eq_true h2
  · have hl := (List.getElem?_eq_some_iff.mp hx).1
    have := of_decide_eq_true (List.all_eq_true.mp h3 i (List.mem_range.mpr hl))
    rw [List.getD_eq_getElem?_getD, hx] at this
    exact this
theorem chain7_all : ((List.range 8).all fun n => (List.range 9).all fun r => chainB n r (combIx r (List.range n))) = true := by decide +kernel
theorem chain7 {n r : Nat} (hn : n ≤ 7) (hr : r ≤ 8) : Chain n r (combIx r (List.range n)) :=
  chain_of (List.all_eq_true.mp (List.all_eq_true.mp chain7_all n (List.mem_range.mpr (by omega))) r (List.mem_range.mpr (by omega)))
end L2
set_option Elab.async false
set_option linter.all false
set_option maxRecDepth 100000
set_option maxHeartbeats 2000000
namespace Nf
open PySem PySem.Spec PyProof.Rows L2
/-! ### texts as lists of code points -/
def tx (l : List Nat) : Str := ⟨l.toArray⟩
theorem tx_toList (l : List Nat) : (tx l).cps.toList = l := by simp [tx]
theorem tx_size (l : List Nat) : (tx l).cps.size = l.length := by simp [tx]
theorem tx_length (l : List Nat) : (tx l).length = l.length := by rw [TL.len_tl]; show (tx l).cps.toList.length = _; rw [tx_toList]
theorem tx_inj {l m : List Nat} (h : tx l = tx m) : l = m := by
  have := congrArg (fun s : Str => s.cps.toList) h
  simpa only [tx_toList] using this
theorem tx_get (l : List Nat) (i : Nat) : (tx l).cps[i]? = l[i]? := by simp [tx]
theorem tx_one (c : Nat) : (⟨#[c]⟩ : Str) = tx [c] := rfl
theorem tx_append (l m : List Nat) : tx l ++ tx m = tx (l ++ m) := by
  apply TL.ext_tl
  rw [TL.tl_append]
  show (tx l).cps.toList ++ (tx m).cps.toList = (tx (l ++ m)).cps.toList
  simp only [tx_toList]
theorem joinL_nil : ∀ ls : List (List Nat), TL.joinL [] ls = ls.flatten
  | [] => rfl
  | [p] => by simp [TL.joinL]
  | p :: q :: r => by
    show p ++ ([] ++ TL.joinL [] (q :: r)) = _
    rw [joinL_nil (q :: r)]
    simp
theorem tx_join (ls : List (List Nat)) : Txt.join (tx []) (ls.map tx) = tx ls.flatten := by
  rw [TL.join_eq]
  apply TL.ext_tl
  rw [TL.tl_join]
  have e1 : (TL.tl (tx [])) = [] := tx_toList []
  have e2 : (ls.map tx).map TL.tl = ls := by
    rw [List.map_map]
    have : (TL.tl ∘ tx) = id := funext fun l => tx_toList l
    rw [this, List.map_id]
  rw [e1, e2, joinL_nil]
  exact (tx_toList _).symm
theorem dec_tx (l m : List Nat) : decide (V.str (tx l) = V.str (tx m)) = decide (l = m) := by
  by_cases h : l = m
  · subst h; simp
  · rw [decide_eq_false h, decide_eq_false]
    intro e
    injection e with e
    exact h (tx_inj e)
theorem sum_len (ls : List (List Nat)) : ((ls.map tx).map (·.length)).sum = ls.flatten.length := by
  induction ls with
  | nil => rfl
  | cons a l ih =>
    rw [List.map_cons, List.map_cons, List.sum_cons, ih, tx_length, List.flatten_cons, List.length_append]
/-- the values of texts -/
def vtx (ls : List (List Nat)) : List V := ls.map fun l => V.str (tx l)
theorem vtx_eq (ls : List (List Nat)) : vtx ls = (ls.map tx).map V.str := by rw [vtx, List.map_map]; rfl
/-- the signs of a text -/
def vsg (l : List Nat) : List V := l.map fun c => V.str (tx [c])
/-! ### what may change in a heap: M tells the places that move, and what stays true of them -/
abbrev Mv := Addr → Option (HO → Prop)
def m0 : Mv := fun _ => none
def Ext (M : Mv) (H H' : Hp) : Prop := ∀ a, match M a with
  | none => ∀ o, H a = some o → H' a = some o
  | some g => ∀ o, H a = some o → g o → ∃ o', H' a = some o' ∧ g o'
theorem Ext.refl (M : Mv) (H : Hp) : Ext M H H := fun a => by
  cases e : M a with
  | none => exact fun o h => h
  | some g => exact fun o h k => ⟨o, h, k⟩
theorem Ext.trans {M : Mv} {H H1 H2 : Hp} (a : Ext M H H1) (b : Ext M H1 H2) : Ext M H H2 := fun x => by
  have a := a x
  have b := b x
  cases e : M x with
  | none => rw [e] at a b; exact fun o h => b o (a o h)
  | some g =>
    rw [e] at a b
    intro o h k
    obtain ⟨o1, h1, k1⟩ := a o h k
    exact b o1 h1 k1
theorem Ext.at {M : Mv} {H H' : Hp} (e : Ext M H H') {a : Addr} {o : HO} (hm : M a = none) (h : H a = some o) : H' a = some o := by
  have z := e a
  rw [hm] at z
  exact z o h
theorem Ext.live {M : Mv} {H H' : Hp} (e : Ext M H H') {a : Addr} {g : HO → Prop} {o : HO} (hm : M a = some g) (h : H a = some o) (k : g o) : ∃ o', H' a = some o' ∧ g o' := by
  have z := e a
  rw [hm] at z
  exact z o h k
abbrev Sm := Ext m0
theorem Sm.at {H H' : Hp} (e : Sm H H') {a : Addr} {o : HO} (h : H a = some o) : H' a = some o := e a o h
theorem Sm.of {H H' : Hp} (e : ∀ a o, H a = some o → H' a = some o) : Sm H H' := e
theorem Sm.seqL {K : PySem.W.Frag} {H H' : Hp} {a : Addr} {xs : List V} (e : Sm H H') (h : SqL K H a xs) : SqL K H' a xs := by
  rcases h with (h | ⟨o, h⟩) | h
  · exact .inl (.inl (e a _ h))
  · exact .inl (.inr ⟨o, e a _ h⟩)
  · exact .inr h
theorem Sm.seqT {K : PySem.W.Frag} {H H' : Hp} {a : Addr} {xs : List V} (e : Sm H H') (h : SqT K H a xs) : SqT K H' a xs := by
  rcases h with (h | ⟨o, h⟩) | h
  · exact .inl (.inl (e a _ h))
  · exact .inl (.inr ⟨o, e a _ h⟩)
  · exact .inr h
theorem Sm.ext {M : Mv} {H H' : Hp} (e : Sm H H') : Ext M H H' := fun a => by
  have z : ∀ o, H a = some o → H' a = some o := e a
  cases q : M a with
  | none => exact z
  | some g => exact fun o h k => ⟨o, z o h, k⟩
theorem Ext.new {M : Mv} {H : Hp} {p : Addr} {o : HO} (h : H p = none) : Ext M H (upd H p o) :=
  Sm.ext fun a u e => by rw [upd_ne (ne_of_none e h)]; exact e
theorem Ext.mut {M : Mv} {H H' : Hp} {p : Addr} {o : HO} (e : Ext M H H') (h : H p = none) : Ext M H (upd H' p o) := fun a => by
  have z := e a
  cases q : M a with
  | none =>
    rw [q] at z
    intro u hu
    rw [upd_ne (ne_of_none hu h)]
    exact z u hu
  | some g =>
    rw [q] at z
    intro u hu k
    rw [upd_ne (ne_of_none hu h)]
    exact z u hu k
theorem Ext.fresh {M : Mv} {H H' : Hp} {p : Addr} (e : Ext M H H') (hm : M p = none) (h : H' p = none) : H p = none := by
  cases q : H p with
  | none => rfl
  | some o => rw [e.at hm q] at h; cases h
/-- the moving places stand -/
def Live (M : Mv) (H : Hp) : Prop := ∀ a g, M a = some g → ∃ o, H a = some o ∧ g o
theorem Live.m0 (H : Hp) : Live m0 H := fun a g h => nomatch h
theorem Live.ext {M : Mv} {H H' : Hp} (l : Live M H) (e : Ext M H H') : Live M H' := fun a g h => by
  obtain ⟨o, ho, k⟩ := l a g h
  exact e.live h ho k
theorem Live.off {M : Mv} {H : Hp} (l : Live M H) {p : Addr} (h : H p = none) : M p = none := by
  cases q : M p with
  | none => rfl
  | some g => obtain ⟨o, ho, _⟩ := l p g q; rw [ho] at h; cases h
/-! ### comprehensions and loops over anything that is walked -/
/-- behind i turns of a comprehension: the list at D, what is known -/
def LW (M : Mv) (H1 : Hp) (D : Addr) (I : Nat → List V → Hp → Prop) (i : Nat) (H : Hp) : Prop := Ext M H1 H ∧ ∃ L, H D = some (.lst L) ∧ L.length < 100000 ∧ I i L H
section
variable {J : It} {n : Nat} {G : Hp → Prop} {Y : Nat → Hp → V → Hp → Prop} {M : Mv} {H1 : Hp} {D : Addr} {I : Nat → List V → Hp → Prop}
/-- a turn that gives y -/
theorem LW.add {i : Nat} {H H4 : Hp} {L : List V} {y : V} (hD : H1 D = none) (hL : Live M H1) (e : Ext M H1 H) (hl : H D = some (.lst L)) (e4 : Ext M H H4) (hz : (L ++ [y]).length < 100000) (k : I (i + 1) (L ++ [y]) (upd H4 D (.lst (L ++ [y])))) :
    ∃ acc, H4 D = some (.lst acc) ∧ acc.length < sizeLine ∧ LW M H1 D I (i + 1) (upd H4 D (.lst (acc ++ [y]))) := by
  refine ⟨L, e4.at (hL.off hD) hl, ?_, (e.trans e4).mut hD, L ++ [y], upd_same, hz, k⟩
  rw [show sizeLine = 16777216 from sizeLine_eq]
  rw [List.length_append, List.length_singleton] at hz
  omega
/-- a turn that gives nothing -/
theorem LW.skip {i : Nat} {H H4 : Hp} {L : List V} (hD : H1 D = none) (hL : Live M H1) (e : Ext M H1 H) (hl : H D = some (.lst L)) (e4 : Ext M H H4) (hz : L.length < 100000) (k : I (i + 1) L H4) : LW M H1 D I (i + 1) H4 :=
  ⟨e.trans e4, L, e4.at (hL.off hD) hl, hz, k⟩
theorem lcx (w : Walk J n G Y) {g : TG} {tt : TT} {te : TE} {vs : List Nat} {σ : L2.St} {Qd : Hp → Prop} (hD : H1 D = none) (I : Nat → List V → Hp → Prop) (h0 : I 0 [] (upd H1 D (.lst [])))
    (hG : ∀ H, Ext M H1 H → G H)
    (hs : ∀ i x H H' L, i < n → Ext M H1 H → H D = some (.lst L) → L.length < 100000 → I i L H → Y i H x H' → g x (wipe σ vs) H' fun σ2 H2 => wipe σ2 vs = wipe σ vs ∧ tt σ2 H2 fun b H3 =>
      if b = true then te σ2 H3 fun y H4 => ∃ acc, H4 D = some (.lst acc) ∧ acc.length < sizeLine ∧ LW M H1 D I (i + 1) (upd H4 D (.lst (acc ++ [y]))) else LW M H1 D I (i + 1) H3)
    (hd : ∀ L H, Ext M H1 H → H D = some (.lst L) → I n L H → Qd H) :
    ∃ W : Nat → Nat → Hp → Prop, (∃ m, W 0 m (upd H1 D (.lst []))) ∧ ∀ i m H, W i m H →
      (J.stop i H ∧ Qd H) ∨ (J.go i H ∧ ∃ Nx : Hp → Prop, (∀ H', Nx H' → ∃ m', m' < m ∧ W (i + 1) m' H') ∧ ∀ x H', J.yld i H x H' → g x (wipe σ vs) H' fun σ2 H2 => wipe σ2 vs = wipe σ vs ∧ tt σ2 H2 fun b H3 =>
        if b = true then te σ2 H3 fun y H4 => ∃ acc, H4 D = some (.lst acc) ∧ acc.length < sizeLine ∧ Nx (upd H4 D (.lst (acc ++ [y]))) else Nx H3) := by
  refine lc_it w (LW M H1 D I) ⟨.new hD, [], upd_same, by decide, h0⟩ (fun i H _ p => hG H p.1) ?_ ?_
  · rintro i x H H' hi ⟨e, L, hL', hz, hI'⟩ hy
    exact hs i x H H' L hi e hL' hz hI' hy
  · rintro H ⟨e, L, h1, _, h2⟩
    exact hd L H e h1 h2
end
/-- a comprehension in which nothing moves and whose items are plain: f which turns give, v what -/
def giv (f : Nat → Bool) (v : Nat → V) : Nat → List V
  | 0 => []
  | i + 1 => if f i = true then giv f v i ++ [v i] else giv f v i
theorem giv_len (f : Nat → Bool) (v : Nat → V) : ∀ i, (giv f v i).length ≤ i
  | 0 => Nat.le_refl _
  | i + 1 => by
    have := giv_len f v i
    unfold giv
    split
    · rw [List.length_append, List.length_singleton]; omega
    · omega
theorem giv_list {α : Type} (xs : List α) (f : Nat → Bool) (v : Nat → V) (p : α → Bool) (q : α → V) (hf : ∀ (i : Nat) x, xs[i]? = some x → f i = p x) (hv : ∀ (i : Nat) x, xs[i]? = some x → p x = true → v i = q x) :
    ∀ i, i ≤ xs.length → giv f v i = ((xs.take i).filter p).map q
  | 0, _ => by rw [List.take_zero]; rfl
  | i + 1, h => by
    have ih := giv_list xs f v p q hf hv i (Nat.le_of_succ_le h)
    have hx : xs[i]? = some xs[i] := List.getElem?_eq_getElem h
    rw [List.take_add_one, hx, Option.toList_some, List.filter_append, List.map_append, ← ih]
    show (if f i = true then giv f v i ++ [v i] else giv f v i) = _
    rw [hf i _ hx]
    cases e : p xs[i] with
    | true =>
      rw [if_pos rfl, hv i _ hx e]
      simp [e]
    | false =>
      rw [if_neg Bool.false_ne_true]
      simp [e]
theorem lcp {J : It} {n : Nat} {G : Hp → Prop} {Y : Nat → Hp → V → Hp → Prop} (w : Walk J n G Y) {g : TG} {tt : TT} {te : TE} {vs : List Nat} {σ : L2.St} {H1 : Hp} {D : Addr} {Qd : Hp → Prop} (hD : H1 D = none) (hn : n < 90000) (f : Nat → Bool) (v : Nat → V)
    (hG : ∀ H, Sm H1 H → G H)
    (hs : ∀ i x H H', i < n → Sm H1 H → Y i H x H' → g x (wipe σ vs) H' fun σ2 H2 => wipe σ2 vs = wipe σ vs ∧ tt σ2 H2 fun b H3 => b = f i ∧
      if b = true then te σ2 H3 fun y H4 => Sm H H4 ∧ y = v i else Sm H H3)
    (tm : ∀ σ H (Q Q' : Bool → Hp → Prop), (∀ b H1, Q b H1 → Q' b H1) → tt σ H Q → tt σ H Q') (em : ∀ σ H (Q Q' : VK), (∀ v H1, Q v H1 → Q' v H1) → te σ H Q → te σ H Q') (gm : ∀ x σ H (Q Q' : L2.St → Hp → Prop), (∀ σ2 H1, Q σ2 H1 → Q' σ2 H1) → g x σ H Q → g x σ H Q')
    (hd : ∀ H, Sm H1 H → H D = some (.lst (giv f v n)) → Qd H) :
    ∃ W : Nat → Nat → Hp → Prop, (∃ m, W 0 m (upd H1 D (.lst []))) ∧ ∀ i m H, W i m H →
      (J.stop i H ∧ Qd H) ∨ (J.go i H ∧ ∃ Nx : Hp → Prop, (∀ H', Nx H' → ∃ m', m' < m ∧ W (i + 1) m' H') ∧ ∀ x H', J.yld i H x H' → g x (wipe σ vs) H' fun σ2 H2 => wipe σ2 vs = wipe σ vs ∧ tt σ2 H2 fun b H3 =>
        if b = true then te σ2 H3 fun y H4 => ∃ acc, H4 D = some (.lst acc) ∧ acc.length < sizeLine ∧ Nx (upd H4 D (.lst (acc ++ [y]))) else Nx H3) := by
  refine lcx w hD (fun i L _ => L = giv f v i ∧ i ≤ n) ⟨rfl, Nat.zero_le _⟩ hG ?_ ?_
  · rintro i x H H' L hi e hl hz ⟨rfl, _⟩ hy
    have gl := giv_len f v i
    refine gm _ _ _ _ _ (fun σ2 H2 q => ⟨q.1, ?_⟩) (hs i x H H' hi e hy)
    refine tm _ _ _ _ (fun b H3 q => ?_) q.2
    obtain ⟨eb, q⟩ := q
    cases b with
    | true =>
      rw [if_pos rfl] at q ⊢
      refine em _ _ _ _ (fun y H4 q => ?_) q
      have ey : giv f v i ++ [y] = giv f v (i + 1) := by rw [q.2]; show _ = if f i = true then _ else _; rw [← eb, if_pos rfl]
      refine LW.add hD (.m0 _) e hl q.1 ?_ ⟨ey, hi⟩
      rw [List.length_append, List.length_singleton]; omega
    | false =>
      rw [if_neg Bool.false_ne_true] at q ⊢
      refine LW.skip hD (.m0 _) e hl q hz ⟨?_, hi⟩
      show _ = if f i = true then _ else _
      rw [← eb, if_neg Bool.false_ne_true]
  · rintro L H e hl ⟨rfl, _⟩
    exact hd H e hl
end Nf
namespace Nf
open PySem PySem.Spec PyProof.Rows L2
/-! ### calls of defs by their promises -/
structure Can (P : Program) (w : World) (K : PySem.W.Frag) (mg : Str → Option Value) (base : Heap) (k : Nat) (x : Str) (st : Stmt) (ps : List Str) (sp : Sp) : Prop where
  ex : ∃ f fd, mg x = some (.ref f) ∧ Fun K x x st f fd ∧ Binds K fd ps [] ∧ FnOk P w K mg base CX0 k f fd ps sp
section
variable {X : Cx} {k : Nat} {x : Str} {st : Stmt} {ps : List Str} {sp : Sp} {p pos : Pos} {e : Expr} {es : List Expr} {t : TA}
theorem pe_can (c : Can X.prog X.w X.K X.mg X.base k x st ps sp) (hr : Room k X.A) (ha : PA X (e :: es) t) (hg : Gl X x := by rfl) (hdb : (x == ("__debug__" : Str)) = false := by decide)
    (he : starEach (e :: es) X.env = (false, eval e X.env) :: starEach es X.env := by rfl) (hpl : (backTo pos (starEach es X.env)).any (·.1) = false := by rfl) : PE X (.Call (.Name x p) (e :: es) [] pos) (tCall sp [] E0 t) := by
  obtain ⟨f, fd, hm, F, hb, ok⟩ := c.ex
  exact pe_call ok hr hg hm F.kp hb .nil pass0 ha hdb he hpl
/-- keywords alone -/
theorem pe_canK {ks : List Str} {kws : List Keyword} {g : List Value → List Value → List Value} {gV : List V → List V → List V} {tk : TA} (c : Can X.prog X.w X.K X.mg X.base k x st ps sp) (hr : Room k X.A) (hb : ∀ f fd, Fun X.K x x st f fd → KBn X.K fd ps 0 ks g gV)
    (hkw : PK X kws tk) (hg : Gl X x := by rfl) (hall : (backToKw pos (keywordEach kws X.env)).all (·.1.isSome) = true := by rfl) (hks : (backToKw pos (keywordEach kws X.env)).filterMap (·.1) = ks := by rfl)
    (hdb : (x == ("__debug__" : Str)) = false := by decide) (hpl : ((backTo pos (starEach [] X.env)).any (·.1) || (backToKw pos (keywordEach kws X.env)).any (·.1.isNone)) = false := by rfl) :
    PE X (.Call (.Name x p) [] kws pos) (tCallN 0 ks.length sp gV E0 tNil tk) := by
  obtain ⟨f, fd, hm, F, _, ok⟩ := c.ex
  refine ⟨fun pins s σ H Q I h => ?_⟩
  refine wpAny_Call_Name_kw (ld_glob I hg hm ?_ hdb)
  refine PySem.W.callWith_KW0 (h₀ := X.base) I.ok.mod.kin F.kp hall ?_ hpl
  refine thn (hkw.run pos pins s σ H _ I h) fun ws s2 ⟨zs, H2, I2, rz, l1, l2, q2⟩ => ⟨I2.kIn, ?_⟩
  rw [hks]
  exact run_fnN (us := []) (vs := []) ok hr (hb f fd F) pass0 I2 .nil rz l1 l2 q2
theorem pe_gS {z : Str} (hm : ∃ t, X.mg x = some (.str z t)) (hg : Gl X x := by rfl) (hd : (x == ("__debug__" : Str)) = false := by decide) : PE X (.Name x pos) (tC (.str z)) := by
  obtain ⟨t, hm⟩ := hm
  exact pe_glob hg hm ⟨t, rfl⟩ hd
theorem pe_gI {z : Int} (hm : ∃ t, X.mg x = some (.int z t)) (hg : Gl X x := by rfl) (hd : (x == ("__debug__" : Str)) = false := by decide) : PE X (.Name x pos) (tC (.int z)) := by
  obtain ⟨t, hm⟩ := hm
  exact pe_glob hg hm ⟨t, rfl⟩ hd
end
theorem sz5 {n : Nat} (h : n ≤ 1000000) : n ≤ sizeLine := by rw [show sizeLine = 16777216 from sizeLine_eq]; omega
theorem walk_tx (l : List Nat) : Walk (Its (tx l)) l.length (fun _ => True) (fun i H v H' => H' = H ∧ ∃ c, l[i]? = some c ∧ v = .str (tx [c])) := by
  have w := walk_str (z := tx l)
  rw [tx_size] at w
  refine w.mono (fun _ _ => trivial) fun i H x H' hi _ y => ?_
  obtain ⟨e, c, hc, hx⟩ := y
  rw [tx_get] at hc
  exact ⟨e, c, hc, hx⟩
end Nf
namespace Nf
theorem flat1 : ∀ l : List Nat, (l.map fun c => [c]).flatten = l
  | [] => rfl
  | c :: l => by rw [List.map_cons, List.flatten_cons, flat1 l]; rfl
theorem take_snoc {α : Type} {l : List α} {i : Nat} {c : α} (h : l[i]? = some c) : l.take (i + 1) = l.take i ++ [c] := by rw [List.take_add_one, h]; rfl
end Nf
namespace Nf
open PySem PySem.Spec PyProof.Rows L2
theorem cutS_from (l : List Nat) (a : Nat) : cutS (tx l) (some (a : Int)) none = tx (l.drop a) := by
  unfold cutS
  rw [HT.sIx_nat, HT.sIx_none, tx_toList, tx_length]
  show tx _ = tx _
  congr 1
  by_cases h : a ≤ l.length
  · rw [Nat.min_eq_left h, List.take_of_length_le]
    rw [List.length_drop]
    exact Nat.le_refl _
  · rw [Nat.min_eq_right (by omega), List.drop_length, List.drop_eq_nil_of_le (by omega), List.take_nil]
theorem cutS_to (l : List Nat) (b : Nat) : cutS (tx l) none (some (b : Int)) = tx (l.take b) := by
  unfold cutS
  rw [HT.sIx_nat, HT.sIx_none, tx_toList, tx_length]
  show tx _ = tx _
  congr 1
  rw [List.drop_zero, Nat.sub_zero]
  by_cases h : b ≤ l.length
  · rw [Nat.min_eq_left h]
  · rw [Nat.min_eq_right (by omega), List.take_of_length_le (Nat.le_refl _), List.take_of_length_le (by omega)]
theorem cut_from1 (l : List Nat) : cutS (tx l) (some 1) none = tx (l.drop 1) := cutS_from l 1
end Nf
namespace Nf
open PySem PySem.Spec PyProof.Rows L2
/-! ### sorted texts -/
theorem lt_anti : ∀ a b : List Nat, ltCps a b = false → ltCps b a = false → a = b
  | [], [], _, _ => rfl
  | [], _ :: _, h, _ => by simp [ltCps] at h
  | _ :: _, [], _, h => by simp [ltCps] at h
  | x :: r, y :: t, h1, h2 => by
    simp only [ltCps, Bool.or_eq_false_iff, decide_eq_false_iff_not, Bool.and_eq_false_iff, beq_eq_false_iff_ne, ne_eq] at h1 h2
    have e : x = y := by omega
    subst e
    rw [lt_anti r t (h1.2.resolve_left (fun z => z rfl)) (h2.2.resolve_left (fun z => z rfl))]
theorem le_trans : ∀ a b c : List Nat, ltCps b a = false → ltCps c b = false → ltCps c a = false
  | [], [], c, _, h2 => h2
  | [], _ :: _, [], _, _ => rfl
  | [], y :: t, z :: u, _, _ => rfl
  | x :: r, [], _, h1, _ => by simp [ltCps] at h1
  | x :: r, y :: t, [], _, h2 => by simp [ltCps] at h2
  | x :: r, y :: t, z :: u, h1, h2 => by
    simp only [ltCps, Bool.or_eq_false_iff, decide_eq_false_iff_not, Bool.and_eq_false_iff, beq_eq_false_iff_ne, ne_eq] at h1 h2 ⊢
    refine ⟨by omega, ?_⟩
    by_cases e : z = x
    · right
      have e1 : y = x := by omega
      have e2 : z = y := by omega
      exact le_trans r t u (h1.2.resolve_left (fun q => q e1)) (h2.2.resolve_left (fun q => q e2))
    · exact .inl e
theorem le_total : ∀ a b : List Nat, ltCps b a = false ∨ ltCps a b = false
  | [], [] => .inl rfl
  | [], _ :: _ => .inl rfl
  | _ :: _, [] => .inr rfl
  | x :: r, y :: t => by
    simp only [ltCps, Bool.or_eq_false_iff, decide_eq_false_iff_not, Bool.and_eq_false_iff, beq_eq_false_iff_ne, ne_eq]
    rcases Nat.lt_trichotomy x y with h | h | h
    · exact .inl ⟨by omega, .inl (by omega)⟩
    · subst h
      rcases le_total r t with q | q
      · exact .inl ⟨by omega, .inr q⟩
      · exact .inr ⟨by omega, .inr q⟩
    · exact .inr ⟨by omega, .inl (by omega)⟩
def leB (a b : List Nat) : Bool := !ltCps b a
def srt (ls : List (List Nat)) : List (List Nat) := ls.mergeSort leB
theorem srt_perm (ls : List (List Nat)) : (srt ls).Perm ls := List.mergeSort_perm _ _
theorem srt_pw (ls : List (List Nat)) : (srt ls).Pairwise fun a b => leB a b = true := by
  refine List.pairwise_mergeSort (fun a b c h1 h2 => ?_) (fun a b => ?_) ls
  · unfold leB at *
    rw [Bool.not_eq_true'] at *
    exact le_trans a b c h1 h2
  · unfold leB
    rcases le_total a b with h | h
    · rw [h]; rfl
    · rw [h]; simp
theorem leB_anti {a b : List Nat} (h1 : leB a b = true) (h2 : leB b a = true) : a = b := by
  unfold leB at *
  rw [Bool.not_eq_true'] at *
  exact lt_anti a b h2 h1
theorem srt_unique {ls ms : List (List Nat)} (hp : ms.Perm ls) (hs : ms.Pairwise fun a b => leB a b = true) : ms = srt ls :=
  List.Perm.eq_of_pairwise (fun a b _ _ h1 h2 => leB_anti h1 h2) hs (srt_pw ls) (hp.trans (srt_perm ls).symm)
theorem srt_congr {ls ms : List (List Nat)} (hp : ms.Perm ls) : srt ms = srt ls := srt_unique ((srt_perm ms).trans hp) (srt_pw ms)
theorem rising_pw : ∀ (p : Str) (l : List Str), risingS p l = true → (p :: l).Pairwise fun a b => leB a.cps.toList b.cps.toList = true
  | p, [], _ => List.pairwise_singleton _ _
  | p, x :: r, h => by
    have h : (!ltCps x.cps.toList p.cps.toList && risingS x r) = true := h
    rw [Bool.and_eq_true] at h
    have ih := rising_pw x r h.2
    refine List.pairwise_cons.mpr ⟨fun y hy => ?_, ih⟩
    rcases List.mem_cons.mp hy with e | e
    · rw [e]; exact h.1
    · have q := (List.pairwise_cons.mp ih).1 y e
      have h1 := h.1
      unfold leB at *
      rw [Bool.not_eq_true'] at *
      exact le_trans _ _ _ h1 q
theorem sorted_is {ls : List (List Nat)} {ys : List Str} (hp : ys.Perm (ls.map tx)) (hs : sortedS ys = true) : ys = (srt ls).map tx := by
  have pw : ys.Pairwise fun a b => leB a.cps.toList b.cps.toList = true := by
    cases ys with
    | nil => exact List.Pairwise.nil
    | cons x r => exact rising_pw x r hs
  have e := srt_unique (ls := ls) (ms := ys.map fun s => s.cps.toList) (by
    have := hp.map fun s : Str => s.cps.toList
    rw [List.map_map] at this
    have e2 : ((fun s : Str => s.cps.toList) ∘ tx) = id := funext fun l => tx_toList l
    rw [e2, List.map_id] at this
    exact this) (List.pairwise_map.mpr pw)
  rw [← e, List.map_map]
  have e3 : (tx ∘ fun s : Str => s.cps.toList) = id := funext fun s => TL.mk_tl s
  rw [e3, List.map_id]
/-! ### comprehensions of two clauses -/
section
variable {J : It} {n : Nat} {G : Hp → Prop} {Y : Nat → Hp → V → Hp → Prop} {M : Mv} {H1 : Hp} {D : Addr}
theorem lcx_out (w : Walk J n G Y) {g : TG} {tt : TT} {B : L2.St → Hp → (Hp → Prop) → Prop} {vs : List Nat} {σ : L2.St} {Qd : Hp → Prop} (hD : H1 D = none) (I : Nat → List V → Hp → Prop) (h0 : I 0 [] (upd H1 D (.lst []))) (hG : ∀ H, Ext M H1 H → G H)
    (hs : ∀ i x H H' L, i < n → Ext M H1 H → H D = some (.lst L) → L.length < 100000 → I i L H → Y i H x H' → g x (wipe σ vs) H' fun σ2 H2 => wipe σ2 vs = wipe σ vs ∧ tt σ2 H2 fun b H3 => if b = true then B σ2 H3 (LW M H1 D I (i + 1)) else LW M H1 D I (i + 1) H3)
    (hd : ∀ L H, Ext M H1 H → H D = some (.lst L) → I n L H → Qd H) :
    ∃ W : Nat → Nat → Hp → Prop, (∃ m, W 0 m (upd H1 D (.lst []))) ∧ ∀ i m H, W i m H →
      (J.stop i H ∧ Qd H) ∨ (J.go i H ∧ ∃ Nx : Hp → Prop, (∀ H', Nx H' → ∃ m', m' < m ∧ W (i + 1) m' H') ∧ ∀ x H', J.yld i H x H' → g x (wipe σ vs) H' fun σ2 H2 => wipe σ2 vs = wipe σ vs ∧ tt σ2 H2 fun b H3 =>
        if b = true then B σ2 H3 Nx else Nx H3) := by
  refine ⟨fun i m H => m = n - i ∧ i ≤ n ∧ LW M H1 D I i H, ⟨n, by simp, Nat.zero_le _, .new hD, [], upd_same, by decide, h0⟩, ?_⟩
  rintro i m H ⟨rfl, hi, e, L, hl, hz, hI⟩
  by_cases hlt : i < n
  · exact .inr ⟨w.goes i H hlt (hG H e), LW M H1 D I (i + 1), fun H' p' => ⟨n - (i + 1), by omega, rfl, hlt, p'⟩, fun x H' y => hs i x H H' L hlt e hl hz hI (w.yields i H x H' hlt (hG H e) y)⟩
  · have q : i = n := by omega
    subst q
    exact .inl ⟨w.stops H (hG H e), hd L H e hl hI⟩
theorem lcx_in {Nx : Hp → Prop} {H4 : Hp} (w : Walk J n G Y) {g : TG} {tt : TT} {te : TE} {vs : List Nat} {σ : L2.St} (I : Nat → List V → Hp → Prop) (h0 : LW M H1 D I 0 H4) (hG : ∀ j H, j ≤ n → LW M H1 D I j H → G H)
    (hs : ∀ i x H H' L, i < n → Ext M H1 H → H D = some (.lst L) → L.length < 100000 → I i L H → Y i H x H' → g x (wipe σ vs) H' fun σ2 H2 => wipe σ2 vs = wipe σ vs ∧ tt σ2 H2 fun b H3 =>
      if b = true then te σ2 H3 fun y H4 => ∃ acc, H4 D = some (.lst acc) ∧ acc.length < sizeLine ∧ LW M H1 D I (i + 1) (upd H4 D (.lst (acc ++ [y]))) else LW M H1 D I (i + 1) H3)
    (hd : ∀ H, LW M H1 D I n H → Nx H) :
    ∃ W : Nat → Nat → Hp → Prop, (∃ m, W 0 m H4) ∧ ∀ i m H, W i m H →
      (J.stop i H ∧ Nx H) ∨ (J.go i H ∧ ∃ Nx1 : Hp → Prop, (∀ H', Nx1 H' → ∃ m', m' < m ∧ W (i + 1) m' H') ∧ ∀ x H', J.yld i H x H' → g x (wipe σ vs) H' fun σ2 H2 => wipe σ2 vs = wipe σ vs ∧ tt σ2 H2 fun b H3 =>
        if b = true then te σ2 H3 fun y H4 => ∃ acc, H4 D = some (.lst acc) ∧ acc.length < sizeLine ∧ Nx1 (upd H4 D (.lst (acc ++ [y]))) else Nx1 H3) := by
  refine ⟨fun i m H => m = n - i ∧ i ≤ n ∧ LW M H1 D I i H, ⟨n, by simp, Nat.zero_le _, h0⟩, ?_⟩
  rintro i m H ⟨rfl, hi, p⟩
  by_cases hlt : i < n
  · obtain ⟨e, L, hl, hz, hI⟩ := id p
    exact .inr ⟨w.goes i H hlt (hG i H hi p), LW M H1 D I (i + 1), fun H' p' => ⟨n - (i + 1), by omega, rfl, hlt, p'⟩, fun x H' y => hs i x H H' L hlt e hl hz hI (w.yields i H x H' hlt (hG i H hi p) y)⟩
  · have q : i = n := by omega
    subst q
    exact .inl ⟨w.stops H (hG i H (Nat.le_refl _) p), hd H p⟩
end
/-! ### combinations of letters -/
theorem combIx_map (f : Nat → Nat) : ∀ (r : Nat) (l : List Nat), combIx r (l.map f) = (combIx r l).map (·.map f)
  | 0, l => by simp [combIx]
  | r + 1, [] => by simp [combIx]
  | r + 1, a :: l => by
    rw [List.map_cons, combIx, combIx, combIx_map f r l, combIx_map f (r + 1) l, List.map_append, List.map_map, List.map_map]
    congr 1
theorem range_map (l : List Nat) : (List.range l.length).map (fun i => l.getD i 0) = l := by
  apply List.ext_getElem
  · simp
  · intro i h1 h2
    simp
    rw [List.getElem?_eq_getElem h2]
    rfl
theorem combIx_mem : ∀ (r : Nat) (l ix : List Nat), ix ∈ combIx r l → ∀ i ∈ ix, i ∈ l
  | 0, l, ix, h => by
    have : ix = [] := by simpa [combIx] using h
    subst this
    intro i hi
    cases hi
  | r + 1, [], ix, h => by simp [combIx] at h
  | r + 1, a :: l, ix, h => by
    rw [combIx, List.mem_append] at h
    rcases h with h | h
    · obtain ⟨jx, hj, rfl⟩ := List.mem_map.mp h
      intro i hi
      rcases List.mem_cons.mp hi with e | e
      · rw [e]; exact List.mem_cons_self
      · exact List.mem_cons_of_mem _ (combIx_mem r l jx hj i e)
    · exact fun i hi => List.mem_cons_of_mem _ (combIx_mem (r + 1) l ix h i hi)
theorem combIx_len : ∀ (r : Nat) (l ix : List Nat), ix ∈ combIx r l → ix.length = r
  | 0, l, ix, h => by
    have : ix = [] := by simpa [combIx] using h
    rw [this]; rfl
  | r + 1, [], ix, h => by simp [combIx] at h
  | r + 1, a :: l, ix, h => by
    rw [combIx, List.mem_append] at h
    rcases h with h | h
    · obtain ⟨jx, hj, rfl⟩ := List.mem_map.mp h
      rw [List.length_cons, combIx_len r l jx hj]
    · exact combIx_len (r + 1) l ix h
/-- the row of signs that combinations hands out -/
theorem rowV_sg {l ix : List Nat} (h : ∀ i ∈ ix, i < l.length) : rowV (vsg l) ix = vsg (ix.map fun i => l.getD i 0) := by
  induction ix with
  | nil => rfl
  | cons a r ih =>
    have h1 := h a List.mem_cons_self
    have := ih fun i hi => h i (List.mem_cons_of_mem _ hi)
    show (vsg l).getD a .non :: rowV (vsg l) r = V.str (tx [l.getD a 0]) :: vsg (r.map fun i => l.getD i 0)
    rw [this]
    congr 1
    simp [vsg, List.getD_eq_getElem?_getD, List.getElem?_map, List.getElem?_eq_getElem h1]
theorem comb_rows (r : Nat) (l : List Nat) : (combIx r (List.range l.length)).map (fun ix => ix.map fun i => l.getD i 0) = combIx r l := by
  rw [← combIx_map, range_map]
/-- combinations(a text, r): at turn i the i-th row of letters -/
theorem walk_combT (l : List Nat) (r : Nat) : Walk (Itcb (vsg l) (combIx r (List.range l.length))) (combIx r l).length (fun _ => True)
    (fun i H v H' => ∃ T row, v = .ref T ∧ H T = none ∧ H' = upd H T (.tup (vsg row)) ∧ (combIx r l)[i]? = some row ∧ row.length = r) := by
  have w := walk_comb (xs := vsg l) (rows := combIx r (List.range l.length))
  have el : (combIx r (List.range l.length)).length = (combIx r l).length := by have q := congrArg List.length (comb_rows r l); rw [List.length_map] at q; exact q
  rw [el] at w
  refine w.mono (fun _ h => h) fun i H x H' hi _ y => ?_
  obtain ⟨T, ix, e1, e2, e3, e4⟩ := y
  have hm := List.mem_of_getElem? e4
  refine ⟨T, ix.map fun i => l.getD i 0, e1, e2, ?_, ?_, ?_⟩
  · rw [e3, rowV_sg fun i hi => List.mem_range.mp (combIx_mem _ _ _ hm i hi)]
  · rw [← comb_rows, List.getElem?_map, e4]; rfl
  · rw [List.length_map, combIx_len _ _ _ hm]
theorem src_tx {K : PySem.W.Frag} {H : Hp} {l : List Nat} (h : l.length ≤ 1000) : Src K H (.str (tx l)) (vsg l) := by
  refine ⟨by rw [tx_size]; exact sz5 (by omega), ?_⟩
  rw [tx_toList]
  rfl
end Nf
set_option Elab.async false
set_option linter.all false
set_option maxRecDepth 100000
set_option maxHeartbeats 2000000
namespace Nf
open PySem PySem.Spec PyProof.Rows L2
/-! ### a text turned round -/
def tBackS (te : TE) : TE := fun σ H Q => te σ H fun x H1 => ∃ l : List Nat, x = .str (tx l) ∧ l.length ≤ 1000 ∧ Q (.str (tx l.reverse)) H1
theorem back_list (l : List Nat) : ((Builtin.Str.strSliceIndices none none (-1) l.length).filterMap ((tx l).cps[·]?)).toArray = (tx l.reverse).cps := by
  apply Array.toList_inj.mp
  rw [tx_toList, picked_rev, List.toList_toArray, filterMap_get, List.map_map]
  · apply List.ext_getElem
    · simp
    · intro i h1 h2
      simp only [List.length_map, List.length_range] at h1
      have e : (tx l).cps.getD (l.length - 1 - i) 0 = l.getD (l.length - 1 - i) 0 := by simp [tx, Array.getD, List.getD]; split <;> simp_all
      simp only [List.getElem_map, List.getElem_range, Function.comp]
      rw [e, List.getElem_reverse, List.getD_eq_getElem?_getD, List.getElem?_eq_getElem (by omega)]
      rfl
  · intro i hi
    obtain ⟨k, hk, rfl⟩ := List.mem_map.mp hi
    have hk' : k < l.length := List.mem_range.mp hk
    rw [tx_size]
    omega
theorem pe_back {X : Cx} {e : Expr} {te : TE} {k : Nat} {p1 p2 p3 pos : Pos} (he : PE X e te) : PE X (.Subscript e (.Slice none none (some (.UnaryOp .USub (.Constant (.int 1) k p1) p2)) p3) pos) (tBackS te) := by
  refine ⟨fun pins s σ H Q I h => ?_⟩
  refine Subscript_ (thn (he.run pins s σ H _ I h) fun v s1 ⟨x, H1, I1, r1, q1⟩ => ?_)
  obtain ⟨l, ex, hl, q⟩ := q1
  subst ex
  obtain ⟨tk, rfl⟩ := r1
  have hst : PO X (some (.UnaryOp .USub (.Constant (.int 1) k p1) p2)) (tPart (tUn (rU fun i => .int (-i)) (tC (.int 1)))) := po_some (pe_un un_neg pe_int)
  refine wpAny_Slice (thn (po_none.run pins s1 σ H1 (fun o H2 => o = none ∧ H2 = H1) I1 ⟨rfl, rfl⟩) fun vl s2 ⟨lo, H2, I2, pl, el, e2⟩ => ?_)
  subst el e2
  refine thn (po_none.run pins s2 σ H2 (fun o H3 => o = none ∧ H3 = H2) I2 ⟨rfl, rfl⟩) fun vu s3 ⟨u, H3, I3, pu, eu, e3⟩ => ?_
  subst eu e3
  refine thn (hst.run pins s3 σ H3 (fun o H4 => o = some (-1) ∧ H4 = H3) I3 ⟨1, rfl, -1, rfl, rfl, rfl⟩) fun vs s4 ⟨o, H4, I4, ps, eo, e4⟩ => ?_
  subst eo e4
  obtain ⟨l1, rfl, e1⟩ := IsPart.raw pl
  obtain ⟨l2, rfl, e2⟩ := IsPart.raw pu
  obtain ⟨l3, rfl, e3⟩ := IsPart.raw ps
  have I5 : Inv X pins σ H4 { s4 with heap := s4.heap.push { cls := .type "slice", data := .fields #[partValue l1, partValue l2, partValue l3] } } := I4.kept (t' := s4.toks) fun b ob q => Heap.get?_push_of_some _ q
  show wpAny (model X.prog X.w) X.A (subscriptTail e (.Slice none none (some (.UnaryOp .USub (.Constant (.int 1) k p1) p2)) p3) (.str (tx l) tk) (.ref s4.heap.objs.size)) (EP X pins σ Q) X.xe { s4 with heap := s4.heap.push { cls := .type "slice", data := .fields #[partValue l1, partValue l2, partValue l3] } }
  refine tail_any (ops := [.str (tx l) tk, .ref s4.heap.objs.size]) (typeIs_str _ _ _) (PySem.F.slot_str_getitem.lookup) ?_ (by with_unfolding_all rfl)
  have z3 : (l3.map (·.1)).getD 1 = -1 := by rw [e3]; rfl
  refine wpAny_getItem_str_slice (l := l1) (u := l2) (st := l3) ⟨_, Heap.get?_push_size _ rfl, rfl, rfl⟩ (by rw [z3]; decide) ?_
  unfold sliceMade
  rw [z3]
  have hc : ¬ (((-1 : Int) == 1 && (slicePicked (tx l) l1 l2 l3).length == (tx l).length) = true) := by
    rw [show ((-1 : Int) == 1) = false from rfl]; simp
  rw [if_neg hc]
  have hp : (slicePicked (tx l) l1 l2 l3).filterMap ((tx l).cps[·]?) = l.reverse := by
    have := congrArg Array.toList (back_list l)
    rw [List.toList_toArray, tx_toList] at this
    unfold slicePicked
    rw [z3, e1, e2, tx_length]
    exact this
  rw [hp]
  refine ⟨?_, .str _, _, I5.tok _, ⟨_, rfl⟩, q⟩
  show (tx l.reverse).length ≤ _
  rw [tx_length, List.length_reverse]
  exact sz5 (by omega)
/-! ### enumerate of a tuple -/
theorem enum_new1 {v : Value} {o : Obj} {H : Heap → Prop} (B : Begins v o H) :
    Meets (Builtin.«enumerate.__new__» ⟨[.type "enumerate", v], []⟩) (fun _ R s => H s.heap ∧
      R (.ok (.ret (.ref (s.heap.push o).objs.size))) { s with heap := (s.heap.push o).push { cls := .type "enumerate", data := .fields #[.none, .bool false, .ref s.heap.objs.size, rawInt 0, .none, .none] } }) :=
  .of_wp fun prog w A R s h => by
    obtain ⟨hp, g, d, tk, os⟩ := s; obtain ⟨h1, h⟩ := h
    have hsub := sub_enumerate
    have q1 : ∀ {A' : Around} {E : Value → Shared → Prop} {Q : Value → Shared → Prop}, Q (.ref hp.objs.size) ⟨hp.push o, g, d, tk, os⟩ → wpAny (model prog w) A' (pyIter v) Q E ⟨hp, g, d, tk, os⟩ :=
      fun q => B.iter prog w _ _ ⟨hp, g, d, tk, os⟩ _ h1 q
    wp_walk using q1
    refine wpAny_stack_any fun st => wpAny_pure ?_
    split
    · rename_i c _ _ _ _ _
      cases (c == Value.type "enumerate") <;> (wp_walk using q1; exact ⟨_, rfl, h⟩)
    · wp_walk using q1
      exact ⟨_, rfl, h⟩
theorem enum_call1 {prog : Program} {w : World} {A : Around} {E : Value → Shared → Prop} {s : Shared} {v : Value} {o : Obj} {H : Heap → Prop} {Q : Value → Shared → Prop} (B : Begins v o H) (h1 : H s.heap)
    (h : ∀ h', IsEnum h' (s.heap.objs.size + 1) s.heap.objs.size 0 .none → h'.get? s.heap.objs.size = some o → h'.objs.size = s.heap.objs.size + 2 → (∀ b o, s.heap.get? b = some o → h'.get? b = some o) → Q (.ref (s.heap.objs.size + 1)) { s with heap := h' }) :
    wpAny (model prog w) A (call (.type "enumerate") [v]) Q E s := by
  refine callType_new F.called_enumerate (by decide) (F.typeCall_enumerate_1 _) (F.newCall_enumerate_1 _) (fun obj => F.args_object_init_2 obj _) F.entry_enumerate_new (enum_new1 B) ⟨h1, ?_⟩
  have hz : (s.heap.push o).objs.size = s.heap.objs.size + 1 := Heap.size_push ..
  show _ ∧ _
  rw [hz]
  have g0 := Heap.get?_push_size (s.heap.push o) (o := { cls := .type "enumerate", data := .fields #[.none, .bool false, .ref s.heap.objs.size, rawInt 0, .none, .none] }) rfl
  rw [hz] at g0
  exact ⟨⟨_, g0, rfl⟩, h _ g0 (Heap.get?_push_of_some _ (Heap.get?_push_size _ B.free)) (by rw [Heap.size_push, hz]) fun b o x => Heap.get?_push_of_some _ (Heap.get?_push_of_some _ x)⟩
def IteT (K : PySem.W.Frag) (a : Addr) : It :=
  ⟨fun i H => ∃ (xs : List V) (x : V), SqT K H a xs ∧ xs[i]? = some x, fun i H v H' => ∃ T x, v = .ref T ∧ H T = none ∧ H' = upd H T (.tup [.int (i : Nat), x]) ∧ ∀ xs, SqT K H a xs → xs[i]? = some x, fun i H => ∃ xs : List V, SqT K H a xs ∧ i = xs.length⟩
theorem turn_enumT {P : Program} {w : World} {K : PySem.W.Frag} {elts : List Expr} {kk : Nat} {tpos : Pos} (a e it : Addr) (hne : e ≠ it) :
    Turn P w K (.Tuple elts kk tpos) (IteT K a) [e, it] e (fun i h => (∃ old, IsEnum h e it ((i : Nat) : Int) old) ∧ h.IsTupleIter it a i ∧ a ≠ it ∧ a ≠ e) where
  mem := by simp
  obj := fun i h st b hb => by
    obtain ⟨⟨old, he⟩, ⟨o, ho, hc, hd⟩, _⟩ := st
    have e' : b = e ∨ b = it := by simpa using hb
    rcases e' with z | z
    · rw [z]; exact ⟨_, he, fun v q => nomatch q⟩
    · rw [z]; exact ⟨o, ho, fun v q => by rw [hd] at q; cases q⟩
  keep := fun i h h' st k => ⟨let ⟨old, he⟩ := st.1; ⟨old, k e (by simp) _ he⟩, st.2.1.at fun o q => k it (by simp) o q, st.2.2⟩
  item := by
    intro X hP hw hK hc i pins s σ H E I hf st hg
    subst hP hw hK
    obtain ⟨⟨old, he⟩, hit, hai, hae⟩ := st
    obtain ⟨xs, x, hq, hx⟩ := hg
    obtain ⟨its, rv, p, hz⟩ := I.tuple hq
    obtain ⟨u, hu, ru⟩ := rv.get hx
    have hel : e < s.heap.objs.size := Heap.lt_size he
    have hil : it < s.heap.objs.size := by obtain ⟨_, q, _⟩ := hit; exact Heap.lt_size q
    have hlt : i < its.toArray.size := by
      rw [List.size_toArray]
      exact (List.getElem?_eq_some_iff.mp hu).1
    refine wpAny_pyNext_enum_itemC (Draws.tuple (A := X.A.in1) (show X.A.in1.handled = none from I.ok.hd hc) it a hai its.toArray) he ⟨hit, p⟩ hlt hne (by simp [hne, Ne.symm hae]) fun y h' tk hy ho st' hT hsz hk => ?_
    have hyu : y = u := by
      have z : its[i]? = some y := by simpa using hy
      rw [hu] at z
      exact (Option.some.inj z).symm
    subst hyu
    refine ⟨_, rfl, wpAny_letOwnedTupleGo_enum (s := { s with heap := h', toks := tk + 1 }) ho fun h'' he' sb => ?_⟩
    have hT2 := (sb.2 _ (Nat.ne_of_gt hel)).trans hT
    have new : ObjOk X.prog X.w (upd H s.heap.objs.size (.tup [.int (i : Nat), x])) h'' s.heap.objs.size (.tup [.int (i : Nat), x]) :=
      ⟨by show 2 ≤ sizeLine; decide, [.int i tk, y], .cons ⟨_, rfl⟩ (.cons ru .nil), ⟨_, hT2, rfl, _, rfl⟩⟩
    have I1 : L2.Inv X pins σ (upd H s.heap.objs.size (.tup [.int (i : Nat), x])) { s with heap := h'', toks := tk + 1 } :=
      I.turnedNew (ch := [e, it]) (fun b ob hb q => (sb.2 b (fun z => hb (by simp [z]))).trans (hk b ob (fun z => hb (by simp [z])) (fun z => hb (by simp [z])) q)) hf (Nat.le_refl _) new
    refine ⟨.ref s.heap.objs.size, _, I1, rfl, ⟨_, x, rfl, I.hok.fresh (Nat.le_refl _), rfl, fun ys hy => by rw [I.tuple_inj hy hq]; exact hx⟩, ⟨⟨y, ?_⟩, st'.1.at fun o q => (sb.2 it (Ne.symm hne)).trans q, hai, hae⟩, fun b hb => ?_⟩
    · have e1 : ((i + 1 : Nat) : Int) = (i : Int) + 1 := by omega
      rw [e1]; exact he'
    · have hb' : b < s.heap.objs.size := by
        have e' : b = e ∨ b = it := by simpa using hb
        rcases e' with z | z
        · rw [z]; exact hel
        · rw [z]; exact hil
      rw [upd_ne (Nat.ne_of_lt hb')]
      exact (hf b hb).1
  done := by
    intro X hP hw hK hc i pins s σ H E I hf st hg
    subst hP hw hK
    obtain ⟨⟨old, he⟩, hit, hai, hae⟩ := st
    obtain ⟨xs, hq, hx⟩ := hg
    obtain ⟨its, rv, p, hz⟩ := I.tuple hq
    obtain ⟨f0, f1, f2, f3, f4, f5⟩ := hf it (by simp)
    have hl : i = its.toArray.size := by rw [List.size_toArray, ← rv.length]; exact hx
    subst hl
    exact wpAny_pyNext_enum_endD (Draws.tuple (A := X.A.in1) (show X.A.in1.handled = none from I.ok.hd hc) it a hai its.toArray) he ⟨hit, p⟩ fun h' eb => ⟨rfl, I.turned (t' := s.toks) (fun b o hb q => eb b o hb q) f0 f1 f3 f4 f5⟩
  self := fun A i s Q E st h => let ⟨⟨_, he⟩, _⟩ := st; wpAny_pyIter_enum he h
def iEnumT (K : PySem.W.Frag) (ta : TA) : TI := fun σ H R => ta σ H fun vs H1 => ∃ a xs, vs = [.ref a] ∧ SqT K H1 a xs ∧ R (IteT K a) H1
theorem pi_enumT {X : Cx} {e : Expr} {ta : TA} {p pos tpos : Pos} {elts : List Expr} {kk : Nat} (hg : Gl X "enumerate") (hm : X.mg "enumerate" = none) (ha : PA X [e] ta) (hs : starEach [e] X.env = [(false, eval e X.env)] := by rfl) :
    PI X (.Tuple elts kk tpos) (.Call (.Name "enumerate" p) [e] [] pos) (iEnumT X.K ta) := by
  refine ⟨fun pins s σ H R I h => ?_⟩
  refine Call_ (ld_blt I hg hm boot_enumerate (PyProof.Rows.callWith_type1 (thn (ha.run pos pins s σ H _ I h) fun us s1 ⟨vs, H1, I1, r1, q1⟩ => ?_) hs rfl))
  obtain ⟨a, xs, ex, hq, q⟩ := q1
  subst ex
  cases r1 with
  | cons r rr =>
    cases rr
    cases r
    obtain ⟨its, rv, p', hz⟩ := I1.tuple hq
    have ha : a < s1.heap.objs.size := by obtain ⟨o, ho, _⟩ := p'; exact Heap.lt_size ho
    refine enum_call1 (begins_tuple a its.toArray) p' fun h' he hit hsz hk => wpAny_pyIter_enum he ?_
    have I2 : L2.Inv X pins σ H1 { s1 with heap := h' } := I1.kept (t' := s1.toks) hk
    refine ⟨s1.heap.objs.size + 1, [s1.heap.objs.size + 1, s1.heap.objs.size], _, _, H1, rfl, I2, turn_enumT a (s1.heap.objs.size + 1) s1.heap.objs.size (Nat.succ_ne_self _), ⟨⟨.none, he⟩, ⟨_, hit, rfl, rfl⟩, Nat.ne_of_lt ha, Nat.ne_of_lt (Nat.lt_succ_of_lt ha)⟩, fun b hb => ?_, q⟩
    have e' : b = s1.heap.objs.size + 1 ∨ b = s1.heap.objs.size := by simpa using hb
    have hle : s1.heap.objs.size ≤ b := by
      rcases e' with z | z
      · rw [z]; exact Nat.le_add_right _ _
      · rw [z]; exact Nat.le_refl _
    exact I1.fpOk hle (I1.hok.fresh hle)
theorem walk_enumT {K : PySem.W.Frag} {a : Addr} {xs : List V} : Walk (IteT K a) xs.length (fun H => SqT K H a xs) (fun i H v H' => ∃ T x, v = .ref T ∧ H T = none ∧ H' = upd H T (.tup [.int (i : Nat), x]) ∧ xs[i]? = some x) :=
  ⟨fun i _ hi q => ⟨xs, xs[i], q, by simp [hi]⟩, fun _ q => ⟨xs, q, rfl⟩, fun i H v H' _ q y => by obtain ⟨T, x, h1, h2, h3, h4⟩ := y; exact ⟨T, x, h1, h2, h3, h4 xs q⟩⟩
/-! ### a store into a dict as a target -/
theorem set_dict {X : Cx} (hu : X.A.units + 1 < cLine) : PSet X (fun o i v H Q => ∃ a H', o = .ref a ∧ DPut H a i v H' ∧ Q H') := by
  intro pins s σ H o i v ov iv u Q I ro ri rv h
  obtain ⟨a, H', rfl, hp, q⟩ := h
  obtain rfl : ov = Value.ref a := ro
  exact d_setItem hu I hp ri rv fun s' I' => ⟨H', I', q⟩
end Nf
namespace Nf
open PySem PySem.Spec PyProof.Rows L2
theorem vals_signs : ∀ (l : List Nat) (us : List Value), us.length = l.length → (∀ (j : Nat) (v : Value), us[j]? = some v → ∃ (c : Nat) (t : Tok), l[j]? = some c ∧ v = Value.str ⟨#[c]⟩ t) → Vals (vsg l) us
  | [], [], _, _ => .nil
  | [], _ :: _, h, _ => by cases h
  | _ :: _, [], h, _ => by cases h
  | c :: l, a :: b, hl, hj => by
    obtain ⟨c', t', e1, e2⟩ := hj 0 a rfl
    cases e1
    subst e2
    exact .cons ⟨t', rfl⟩ (vals_signs l b (Nat.succ.inj hl) fun j v hv => hj (j + 1) v hv)
/-- list(a text): its signs -/
theorem call_list_tx {X : Cx} (hc : X.calm = true) : CallR X (.type "list") (fun xs H Q => ∃ l : List Nat, xs = [.str (tx l)] ∧ l.length ≤ 1000 ∧ ∀ p, H p = none → Q (.ref p) (upd H p (.lst (vsg l)))) := by
  intro pins s σ H xs us Q I r h
  obtain ⟨l, rfl, hl, q⟩ := h
  obtain ⟨u, rfl, t, rfl⟩ := vals1 r
  refine call_list_str (I.ok.hd hc) (tx l) t (fun h' tk acc' c' k e hacc => ?_) (by rw [tx_size]; exact sz5 (by omega))
  obtain ⟨hs, ha⟩ := hacc
  rw [tx_size] at hs
  have rv : Vals (vsg l) acc'.toList := vals_signs l _ (by rw [Array.length_toList, hs]) fun j v hv => by
    obtain ⟨c, t', e1, e2⟩ := ha j v (by simpa using hv)
    rw [tx_get] at e1
    exact ⟨c, t', e1, e2⟩
  exact ⟨.ref s.heap.objs.size, _, I.laid (t' := tk) k (Nat.le_refl _) (show ObjOk X.prog X.w _ h' _ (.lst (vsg l)) from ⟨by rw [vsg, List.length_map]; exact sz5 (by omega), acc'.toList, c', rv, by simpa using e⟩), rfl, q _ (I.hok.fresh (Nat.le_refl _))⟩
/-- a tuple of pairs of a text and a number -/
def Rows (K : PySem.W.Frag) (H : Hp) (a : Addr) (rows : List (List Nat × Int)) : Prop :=
  ∃ as : List V, SqT K H a as ∧ as.length = rows.length ∧ ∀ (i : Nat) v r, as[i]? = some v → rows[i]? = some r → ∃ b, v = .ref b ∧ SqT K H b [.str (tx r.1), .int r.2]
theorem Rows.sm {K : PySem.W.Frag} {H H' : Hp} {a : Addr} {rows : List (List Nat × Int)} (r : Rows K H a rows) (e : Sm H H') : Rows K H' a rows := by
  obtain ⟨as, h1, h2, h3⟩ := r
  refine ⟨as, Sm.seqT e h1, h2, fun i v r hv hr => ?_⟩
  obtain ⟨b, e1, e2⟩ := h3 i v r hv hr
  exact ⟨b, e1, Sm.seqT e e2⟩
end Nf
set_option Elab.async false
set_option linter.all false
set_option maxRecDepth 100000
set_option maxHeartbeats 2000000
/-! the rules that lean on the written part, told for a part that is named: so they fit into a comprehension's block -/
namespace Nf
open PySem PySem.Spec PyProof.Rows L2
section
variable {X : Cx} (K : PySem.W.Frag)
theorem ix_listK (h : X.K = K := by rfl) : IxR X (rIxL K) := h ▸ ix_list
theorem ix_tupK (h : X.K = K := by rfl) : IxR X (rIxT K) := h ▸ ix_tup
theorem op_in_seqK (h : X.K = K := by rfl) : OpR X (compareOp .In) (rIn K false) := h ▸ op_in_seq
theorem op_notIn_seqK (h : X.K = K := by rfl) : OpR X (compareOp .NotIn) (rIn K true) := h ▸ op_notIn_seq
theorem op_eqDK (hu : X.A.units + 64 < cLine) (h : X.K = K := by rfl) : OpR X (compareOp .Eq) (rEqD K) := h ▸ op_eqD hu
theorem op_neDK (hu : X.A.units + 64 < cLine) (h : X.K = K := by rfl) : OpR X (compareOp .NotEq) (rNeD K) := h ▸ op_neD hu
def rLenK (K : PySem.W.Frag) : List V → Hp → VK → Prop := fun xs H Q => ∃ p ys, xs = [.ref p] ∧ (SqL K H p ys ∨ SqT K H p ys) ∧ Q (.int ys.length) H
theorem call_len_seqK (h : X.K = K := by rfl) : CallR X (.builtin "len") (rLenK K) := h ▸ call_len_seq
def rListK (K : PySem.W.Frag) : List V → Hp → VK → Prop := fun xs H Q => ∃ p ys, xs = [.ref p] ∧ (SqL K H p ys ∨ SqT K H p ys) ∧ ∀ l, H l = none → Q (.ref l) (upd H l (.lst ys))
theorem call_list_ofK (h : X.K = K := by rfl) : CallR X (.type "list") (rListK K) := h ▸ call_list_of
def rTupleK (K : PySem.W.Frag) : List V → Hp → VK → Prop := fun xs H Q => ∃ p ys, xs = [.ref p] ∧ ((SqL K H p ys ∧ ∀ l, H l = none → Q (.ref l) (upd H l (.tup ys))) ∨ (SqT K H p ys ∧ Q (.ref p) H))
theorem call_tuple_ofK (h : X.K = K := by rfl) : CallR X (.type "tuple") (rTupleK K) := h ▸ call_tuple_of
theorem sl_listK (h : X.K = K := by rfl) : SlR X (rSlL K) := h ▸ sl_list
theorem sl_tupK (h : X.K = K := by rfl) : SlR X (rSlT K) := h ▸ sl_tup
theorem cr_sumK (hc : X.calm = true) (h : X.K = K := by rfl) : CallR X (.builtin "sum") (rSum K) := h ▸ cr_sum hc
theorem cr_maxK (hc : X.calm = true) (h : X.K = K := by rfl) : CallR X (.builtin "max") (rMax K) := h ▸ cr_max hc
theorem cr_minK' (hc : X.calm = true) (h : X.K = K := by rfl) : CallR X (.builtin "min") (rMin K) := h ▸ cr_min hc
theorem cr_anyK (hc : X.calm = true) (h : X.K = K := by rfl) : CallR X (.builtin "any") (rAny K) := h ▸ cr_any hc
theorem cr_allK (hc : X.calm = true) (h : X.K = K := by rfl) : CallR X (.builtin "all") (rAll K) := h ▸ cr_all hc
theorem cr_sortedSK (h : X.K = K := by rfl) : CallR X (.builtin "sorted") (rSortedS K) := h ▸ cr_sortedS
theorem cr_sortedK (h : X.K = K := by rfl) : CallR X (.builtin "sorted") (rSorted K) := h ▸ cr_sorted
def rDictP (K : PySem.W.Frag) : List V → Hp → VK → Prop := fun xs H Q => ∃ (a : Addr) (ps : List Addr) (kvs : List (Key × V)), xs = [.ref a] ∧ SqL K H a (ps.map V.ref) ∧ Paired (fun p kv => SqT K H p [kV kv.1, kv.2]) ps kvs ∧ ∀ p, H p = none → Q (.ref p) (upd H p (.dK (mergeK [] kvs)))
theorem call_dictPK (hc : X.calm = true) (h : X.K = K := by rfl) : CallR X (.type "dict") (rDictP K) := h ▸ call_dictP hc
def rJoin (K : PySem.W.Frag) : V → List V → Hp → VK → Prop := fun x xs H Q => ∃ a p, ∃ ys : List Str, x = .str a ∧ xs = [.ref p] ∧ (SqL K H p (ys.map V.str) ∨ SqT K H p (ys.map V.str)) ∧
  (ys.map (·.length)).sum + ys.length * a.length ≤ 16777216 ∧ Q (.str (Txt.join a ys)) H
theorem pe_joinK {o e : Expr} {to te : TE} {apos pos : Pos} (ho : PE X o to) (he : PE X e te) (h : X.K = K := by rfl) (hs : starEach [e] X.env = [(false, eval e X.env)] := by rfl) (hbase : attributeBase o "join" X.env (eval o X.env) = eval o X.env := by rfl) (hline : (apos.endLine == pos.line) = true := by rfl) :
    PE X (.Call (.Attribute o "join" apos) [e] [] pos) (tM1 (rJoin K) to te) := by
  subst h
  exact pe_join ho he hs hbase hline
theorem pi_listK {tg l : Expr} {tl : TE} (hl : PE X l tl) (h : X.K = K := by rfl) : PI X tg l (iList K tl) := h ▸ pi_list hl
theorem pi_tupK {tg l : Expr} {tl : TE} (hl : PE X l tl) (h : X.K = K := by rfl) : PI X tg l (iTup K tl) := h ▸ pi_tup hl
theorem pi_combK {tg e e2 : Expr} {ta : TA} {p pos : Pos} (hc : X.calm = true) (hg : Gl X "combinations") (hm : X.mg "combinations" = some (.type "itertools.combinations")) (ha : PA X [e, e2] ta) (h : X.K = K := by rfl)
    (hs : starEach [e, e2] X.env = (false, eval e X.env) :: starEach [e2] X.env := by rfl) (hpl : (backTo pos (starEach [e2] X.env)).any (·.1) = false := by rfl) :
    PI X tg (.Call (.Name "combinations" p) [e, e2] [] pos) (iComb K ta) := h ▸ pi_comb hc hg hm ha hs hpl
theorem pg_tup2K {e1 e2 : Expr} {k : Nat} {t : TGs} {pos : Pos} (hc : X.calm = true) (h : PGs X [e1, e2] t) (hK : X.K = K := by rfl)
    (hn : (assignEach [e1, e2] X.env).length = 2 := by rfl) (hst : (assignEach [e1, e2] X.env).findIdx? (·.1) = none := by rfl) : PG X (.Tuple [e1, e2] k pos) (gTup K 2 t) := hK ▸ pg_tup hc h hn hst
theorem pe_atK {e : Expr} {T : String} {r : V → List V → Hp → VK → Prop} {to : TE} {t : TA} (he : PE X e (tBM X.K T r to t)) (hK : X.K = K := by rfl) : PE X e (tBM K T r to t) := hK ▸ he
end
end Nf
namespace Nf
open PySem PySem.Spec PyProof.Rows L2
theorem comb7_all : ((List.range 8).all fun n => (List.range 9).all fun r => decide ((combIx r (List.range n)).length ≤ 35)) = true := by decide +kernel
theorem comb7 {r : Nat} {l : List Nat} (hl : l.length ≤ 7) (hr : r ≤ 8) : (combIx r l).length ≤ 35 := by
  rw [← comb_rows, List.length_map]
  exact of_decide_eq_true (List.all_eq_true.mp (List.all_eq_true.mp comb7_all l.length (List.mem_range.mpr (by omega))) r (List.mem_range.mpr (by omega)))
theorem vtx_take (ls : List (List Nat)) (i : Nat) : (vtx (ls.take i)).length ≤ ls.length := by rw [vtx, List.length_map, List.length_take]; omega
end Nf
namespace Nf
open PySem PySem.Spec PyProof.Rows L2
/-- a comprehension without a test -/
theorem yesT {σ : L2.St} {H : Hp} {f g : Hp → Prop} (h : f H) : tYes σ H fun b H3 => if b = true then f H3 else g H3 := by
  show (if true = true then f H else g H)
  rw [if_pos rfl]
  exact h
end Nf
namespace Nf
open PySem PySem.Spec PyProof.Rows L2
/-! ### dict comprehensions -/
def DW (H1 : Hp) (D : Addr) (f : Nat → List (Key × V)) (i : Nat) (H : Hp) : Prop := Sm H1 H ∧ H D = some (.dK (f i))
theorem dcx {J : It} {n : Nat} {G : Hp → Prop} {Y : Nat → Hp → V → Hp → Prop} {H1 : Hp} {D : Addr} (w : Walk J n G Y) {g : TG} {tt : TT} {tk tv : TE} {vs : List Nat} {σ : L2.St} {Qd : Hp → Prop} (hD : H1 D = none) (f : Nat → List (Key × V)) (h0 : f 0 = []) (hG : ∀ H, Sm H1 H → G H)
    (hs : ∀ i x H H', i < n → Sm H1 H → H D = some (.dK (f i)) → Y i H x H' → g x (wipe σ vs) H' fun σ2 H2 => wipe σ2 vs = wipe σ vs ∧ tt σ2 H2 fun b H3 =>
      if b = true then tk σ2 H3 fun y H4 => tv σ2 H4 fun z H5 => ∃ kvs k, y = kV k ∧ H5 D = some (.dK kvs) ∧ kvs.length < sizeLine ∧ DW H1 D f (i + 1) (upd H5 D (.dK (putK kvs k z))) else DW H1 D f (i + 1) H3)
    (hd : ∀ H, Sm H1 H → H D = some (.dK (f n)) → Qd H) :
    ∃ W : Nat → Nat → Hp → Prop, (∃ m, W 0 m (upd H1 D (.dK []))) ∧ ∀ i m H, W i m H →
      (J.stop i H ∧ Qd H) ∨ (J.go i H ∧ ∃ Nx : Hp → Prop, (∀ H', Nx H' → ∃ m', m' < m ∧ W (i + 1) m' H') ∧ ∀ x H', J.yld i H x H' → g x (wipe σ vs) H' fun σ2 H2 => wipe σ2 vs = wipe σ vs ∧ tt σ2 H2 fun b H3 =>
        if b = true then tk σ2 H3 fun y H4 => tv σ2 H4 fun z H5 => ∃ kvs k, y = kV k ∧ H5 D = some (.dK kvs) ∧ kvs.length < sizeLine ∧ Nx (upd H5 D (.dK (putK kvs k z))) else Nx H3) := by
  refine ⟨fun i m H => m = n - i ∧ i ≤ n ∧ DW H1 D f i H, ⟨n, by simp, Nat.zero_le _, .new hD, by rw [h0]; exact upd_same⟩, ?_⟩
  rintro i m H ⟨rfl, hi, p⟩
  by_cases hlt : i < n
  · exact .inr ⟨w.goes i H hlt (hG H p.1), DW H1 D f (i + 1), fun H' p' => ⟨n - (i + 1), by omega, rfl, hlt, p'⟩, fun x H' y => hs i x H H' hlt p.1 p.2 (w.yields i H x H' hlt (hG H p.1) y)⟩
  · have e : i = n := by omega
    subst e
    exact .inl ⟨w.stops H (hG H p.1), hd H p.1 p.2⟩
theorem putK_len {κ : Type} [DecidableEq κ] (kvs : List (κ × V)) (k : κ) (v : V) : (putK kvs k v).length ≤ kvs.length + 1 := by
  unfold putK
  split
  · rw [List.length_map]; omega
  · rw [List.length_append, List.length_singleton]; omega
/-- the dict of the distances of a thing from itself -/
def selfD (l : List Nat) : List (Key × V) := l.foldl (fun acc c => putK acc (Sum.inr (tx [c, c])) (.int 0)) []
/-- a row put in, either way round -/
def rowD (kvs : List (Key × V)) (r : List Nat × Int) : List (Key × V) := putK (putK kvs (Sum.inr (tx r.1)) (.int r.2)) (Sum.inr (tx r.1.reverse)) (.int r.2)
def bothD (l : List Nat) (rows : List (List Nat × Int)) : List (Key × V) := rows.foldl rowD (selfD l)
theorem selfD_snoc {l : List Nat} {i c : Nat} (h : l[i]? = some c) : selfD (l.take (i + 1)) = putK (selfD (l.take i)) (Sum.inr (tx [c, c])) (.int 0) := by
  rw [take_snoc h, selfD, List.foldl_append]; rfl
theorem bothD_snoc {l : List Nat} {rows : List (List Nat × Int)} {i : Nat} {r : List Nat × Int} (h : rows[i]? = some r) : bothD l (rows.take (i + 1)) = rowD (bothD l (rows.take i)) r := by
  rw [take_snoc h, bothD, List.foldl_append]; rfl
theorem foldl_len {α : Type} (f : List (Key × V) → α → List (Key × V)) (m : Nat) (hf : ∀ a x, (f a x).length ≤ a.length + m) : ∀ (xs : List α) (a : List (Key × V)), (xs.foldl f a).length ≤ a.length + m * xs.length
  | [], a => by simp
  | x :: xs, a => by
    rw [List.foldl_cons, List.length_cons]
    have h1 := foldl_len f m hf xs (f a x)
    have h2 := hf a x
    rw [Nat.mul_add]
    omega
theorem selfD_len (l : List Nat) : (selfD l).length ≤ l.length := by
  have := foldl_len (fun acc c => putK acc (Sum.inr (tx [c, c])) (.int 0)) 1 (fun a x => putK_len _ _ _) l []
  simpa [selfD] using this
theorem rowD_len (a : List (Key × V)) (r : List Nat × Int) : (rowD a r).length ≤ a.length + 2 := by
  have h1 := putK_len a (Sum.inr (tx r.1)) (.int r.2)
  have h2 := putK_len (putK a (Sum.inr (tx r.1)) (.int r.2)) (Sum.inr (tx r.1.reverse)) (.int r.2)
  exact Nat.le_trans h2 (by omega)
theorem bothD_len (l : List Nat) (rows : List (List Nat × Int)) : (bothD l rows).length ≤ l.length + 2 * rows.length := by
  have h := foldl_len rowD 2 rowD_len rows (selfD l)
  have := selfD_len l
  rw [bothD]
  omega
end Nf
namespace Nf
open PySem PySem.Spec PyProof.Rows L2
/-- a property that hands on a field -/
structure CanP (P : Program) (w : World) (K : PySem.W.Frag) (mg : Str → Option Value) (base : Heap) (C : Addr) (x fld : Str) : Prop where
  ex : ∃ p g fd, PropOf K C x p g ∧ FnOk P w K mg base CX0 1 g fd ["self"] (getSp C fld) ∧ Binds K fd ["self"] []
/-- e.x, a property: the field's value -/
abbrev tPropF (C : Addr) (fld : Str) (ta : TE) : TE := tProp C (getSp C fld) [] E0 ta
theorem pe_propF {X : Cx} {C : Addr} {x fld : Str} {e : Expr} {ta : TE} {pos : Pos} (he : PE X e ta) (c : Cls X.K C) (hp : CanP X.prog X.w X.K X.mg X.base C x fld) (hr : Room 2 X.A)
    (hab : attributeBase e x X.env (eval e X.env) = eval e X.env := by rfl) : PE X (.Attribute e x pos) (tPropF C fld ta) := by
  obtain ⟨p, g, fd, hpo, F, hb⟩ := hp.ex
  exact pe_prop (E := E0) (dvs := []) he c hpo F hr hb .nil pass0 hab
/-- an instance made by its __init__ -/
structure CanM (P : Program) (w : World) (K : PySem.W.Frag) (mg : Str → Option Value) (base : Heap) (k : Nat) (x : Str) (C : Addr) (ps : List Str) (sp : Sp) : Prop where
  ex : ∃ f fd, mg x = some (.ref C) ∧ Mk K C f ∧ Binds K fd ps [] ∧ FnOk P w K mg base CX0 k f fd ps sp
theorem pe_canM {X : Cx} {k : Nat} {C : Addr} {x : Str} {ps : List Str} {sp : Sp} {p pos : Pos} {e : Expr} {es : List Expr} {t : TA} (c : CanM X.prog X.w X.K X.mg X.base k x C ps sp) (hr : Room (k + 1) X.A) (ha : PA X (e :: es) t) (hg : Gl X x := by rfl) (hdb : (x == ("__debug__" : Str)) = false := by decide)
    (he : starEach (e :: es) X.env = (false, eval e X.env) :: starEach es X.env := by rfl) (hpl : (backTo pos (starEach es X.env)).any (·.1) = false := by rfl) : PE X (.Call (.Name x p) (e :: es) [] pos) (tMake C sp [] E0 t) := by
  obtain ⟨f, fd, hm, M, hb, ok⟩ := c.ex
  exact pe_make M ok hr hg hm hb .nil pass0 ha hdb he hpl
/-- name = {..} in one line, the name a local: the store happens within the comprehension's frame -/
theorem ps_setDc {X : Cx} {i : Nat} {y : Str} {py : Pos} {kx vx tg iter : Expr} {ifs : List Expr} {scope : Scope} {own : List (Str × Nat)} {pos spos : Pos} {wi : TI} {g : TG} {tt : TT} {tk tv : TE} (hc : X.calm = true) (hN : X.N.Nodup) (hy : X.N[i]? = some y) (hyl : X.env.scope.names.lookup y = some .local)
    (hsw : swapsWith (.DictComp kx vx [⟨tg, iter, ifs, 0⟩] scope pos) (some (.Name y py)) spos.line X.env = pure true) (hi : PI X tg iter wi) (ok : BlkOk X.N X.env.scope scope own)
    (hg : ∀ (s : Shared) (H : Hp) (C : Addr) (cl : List (Str × Addr)) (fp : List Addr), PG (X.blk s H scope (compEnvC scope cl C X.env) fp) tg g)
    (ht : ∀ (s : Shared) (H : Hp) (C : Addr) (cl : List (Str × Addr)) (fp : List Addr), PTs (X.blk s H scope (compEnvC scope cl C X.env) fp) ifs tt)
    (hk : ∀ (s : Shared) (H : Hp) (C : Addr) (cl : List (Str × Addr)) (fp : List Addr), PE (X.blk s H scope (compEnvC scope cl C X.env) fp) kx tk)
    (he : ∀ (s : Shared) (H : Hp) (C : Addr) (cl : List (Str × Addr)) (fp : List Addr), PE (X.blk s H scope (compEnvC scope cl C X.env) fp) vx tv) (hs : ∀ x, foldedSetIterable iter X.env x = pure x := by intro _; rfl) :
    PS X (.Assign [.Name y py] (.DictComp kx vx [⟨tg, iter, ifs, 0⟩] scope pos) spos) (tAsg (tDc wi g tt tk tv (own.map (·.2))) (gName i)) := by
  refine ⟨fun pins s σ H D I h => ?_⟩
  rw [exec_Assign_Name_used _ _ _ _ hsw]
  refine wpAny_bind (wpAny_standAt (wpAny_bind ?_))
  show wpAny _ X.A (do let _ ← comprehension (.DictComp kx vx [⟨tg, iter, ifs, 0⟩] scope pos) scope X.env (firstIterPos [⟨tg, iter, ifs, 0⟩] pos) newDict false (eval iter X.env) (some (assign (.Name y py) X.env))) _ _ s
  have q0 : tDc wi g tt tk tv (own.map (·.2)) σ H (fun x H1 => gName i x σ H1 D.nx) := h
  refine wpAny_bind (thn (dc_core (Qf := fun _ s' => SP X pins D .next s') hc hN I hi ok hg ht hk he hs q0 fun L C s' m H' I' q hn f => ?_) fun _ s' hq => wpAny_pure (wpAny_pure hq))
  show wpAny _ _ (assign (.Name y py) X.env (.ref L)) _ _ _
  obtain ⟨f0, f1, f2, f3, f4, f5⟩ := f
  refine wpAny_assign_Name (store_ok2 (v := V.ref L) I' hN hy (.inl hyl) rfl (fun s2 I2 ⟨a, sb, ha⟩ => ?_) (.inr hyl))
  have ne : C ≠ a := by
    rcases ha with z | z
    · exact fun e => f1 (e.trans z)
    · exact fun e => f4 y a z e.symm
  exact ⟨m, hn.sameBut sb ne, fun h3 sb3 => ⟨_, H', I2.turned (t' := s2.toks) (fun b o hb e => (sb3.2 b hb).trans e) f0 f1 f3 f4 f5, q⟩⟩
theorem swd_true {kx vx : Expr} {gs : List Comprehension} {scope : Scope} {pos py : Pos} {y : Str} {l : Nat} {env : Env} (hk : env.scope.kind = .function) (hy : env.scope.names.lookup y = some .local) (hl : (py.line == pos.line) = true)
    (ha : (scope.names.any fun (n, k) => n == y && (k == .local || k == .cell)) = false) : swapsWith (.DictComp kx vx gs scope pos) (some (.Name y py)) l env = pure true := by
  have ky : env.kindOf y = some .local := hy
  have hb : env.blockKind = .function := by unfold Env.blockKind; rw [hk]; rfl
  unfold swapsWith
  simp only [hb, ky, ha, Expr.pos, hl]
  rfl
end Nf
set_option Elab.async false
set_option linter.all false
set_option maxRecDepth 100000
set_option maxHeartbeats 2000000
/-! the data layer: what a program does, told of trees of data and a store of cells, no addresses -/
namespace DL
open PySem PySem.Spec PyProof.Rows L2 Nf
/-- keys of dicts -/
abbrev DK := Sum Int (List Nat)
def kk : DK → Key
  | .inl i => .inl i
  | .inr l => .inr (tx l)
theorem kk_inj {a b : DK} (h : kk a = kk b) : a = b := by
  cases a <;> cases b <;> simp only [kk] at h
  · rw [Sum.inl.inj h]
  · cases h
  · cases h
  · rw [tx_inj (Sum.inr.inj h)]
/-- data -/
inductive D where
  | non | bl (b : Bool) | int (i : Int) | str (l : List Nat)
  | lst (xs : List D) | tup (xs : List D)
  /-- a list that is read alone: the script, a list of the module's top -/
  | frl (xs : List D)
  | dic (kvs : List (DK × D)) | dit (kvs : List (List DK × D))
  | ins (C : Addr) (fs : List (Str × D))
  | cel (n : Nat)
  | raw (v : V)
/-- what a cell holds -/
inductive Cell where
  | lst (xs : List D) | dic (kvs : List (DK × D)) | dit (kvs : List (List DK × D)) | ins (C : Addr) (fs : List (Str × D))
  /-- the table of code objects at P, of lambdas named q -/
  | tab (P : Addr) (q : Str)
abbrev Store := List Cell
abbrev Env := List (Option D)
/-- where the cells stand; what is hidden (a list that grows within a comprehension): nothing that bears data stands there -/
structure Mu where
  c : List Addr
  h : List Addr
  /-- (not used) -/
  t : List (Addr × Str)
def Mu.off (μ : Mu) (a : Addr) : Prop := a ∉ μ.c ∧ a ∉ μ.h
def LstAt (K : PySem.W.Frag) (H : Hp) (μ : Mu) (a : Addr) (vs : List V) : Prop :=
  (μ.off a ∧ Rd H a (.lst vs)) ∨ ∃ (o : Obj) (its : Array Value) (n : Nat), K.lookup a = some o ∧ o.cls = .type "list" ∧ o.dict = none ∧ o.data = .seq its n ∧ its.size ≤ sizeLine ∧ Vals vs its.toList
def TupAt (K : PySem.W.Frag) (H : Hp) (μ : Mu) (a : Addr) (vs : List V) : Prop :=
  (μ.off a ∧ Rd H a (.tup vs)) ∨ ∃ (o : Obj) (its : Array Value) (n : Nat), K.lookup a = some o ∧ o.cls = .type "tuple" ∧ o.data = .seq its n ∧ its.size ≤ sizeLine ∧ Vals vs its.toList
mutual
/-- a value bears data -/
def Rp (K : PySem.W.Frag) (H : Hp) (μ : Mu) : D → V → Prop
  | .non, v => v = .non
  | .bl b, v => v = .bl b
  | .int i, v => v = .int i
  | .str l, v => v = .str (tx l)
  | .lst xs, v => ∃ a vs, v = .ref a ∧ μ.off a ∧ H a = some (.lst vs) ∧ RpL K H μ xs vs
  | .frl xs, v => ∃ a vs, v = .ref a ∧ LstAt K H μ a vs ∧ RpL K H μ xs vs
  | .tup xs, v => ∃ a vs, v = .ref a ∧ TupAt K H μ a vs ∧ RpL K H μ xs vs
  | .dic kvs, v => ∃ a vs, v = .ref a ∧ μ.off a ∧ Rd H a (.dK vs) ∧ RpK K H μ kvs vs
  | .dit kvs, v => ∃ a vs, v = .ref a ∧ μ.off a ∧ Rd H a (.dT vs) ∧ RpT K H μ kvs vs
  | .ins C fs, v => ∃ a dx vs, v = .ref a ∧ μ.off a ∧ μ.off dx ∧ H a = some (.ins C dx vs) ∧ H dx = some (.own a) ∧ RpF K H μ fs vs
  | .cel n, v => ∃ a, v = .ref a ∧ μ.c[n]? = some a
  | .raw x, v => v = x
def RpL (K : PySem.W.Frag) (H : Hp) (μ : Mu) : List D → List V → Prop
  | [], vs => vs = []
  | d :: ds, vs => ∃ v r, vs = v :: r ∧ Rp K H μ d v ∧ RpL K H μ ds r
def RpK (K : PySem.W.Frag) (H : Hp) (μ : Mu) : List (DK × D) → List (Key × V) → Prop
  | [], vs => vs = []
  | p :: ds, vs => ∃ v r, vs = (kk p.1, v) :: r ∧ RpP K H μ p v ∧ RpK K H μ ds r
def RpP (K : PySem.W.Frag) (H : Hp) (μ : Mu) : DK × D → V → Prop
  | (_, d), v => Rp K H μ d v
def RpT (K : PySem.W.Frag) (H : Hp) (μ : Mu) : List (List DK × D) → List (List Key × V) → Prop
  | [], vs => vs = []
  | p :: ds, vs => ∃ v r, vs = (p.1.map kk, v) :: r ∧ RpQ K H μ p v ∧ RpT K H μ ds r
def RpQ (K : PySem.W.Frag) (H : Hp) (μ : Mu) : List DK × D → V → Prop
  | (_, d), v => Rp K H μ d v
def RpF (K : PySem.W.Frag) (H : Hp) (μ : Mu) : List (Str × D) → List (Str × V) → Prop
  | [], vs => vs = []
  | p :: ds, vs => ∃ v r, vs = (p.1, v) :: r ∧ RpG K H μ p v ∧ RpF K H μ ds r
def RpG (K : PySem.W.Frag) (H : Hp) (μ : Mu) : Str × D → V → Prop
  | (_, d), v => Rp K H μ d v
end
end DL
set_option Elab.async false
set_option linter.all false
set_option maxRecDepth 100000
set_option maxHeartbeats 2000000
namespace DL
open PySem PySem.Spec PyProof.Rows L2 Nf
/-! ### what stays -/
/-- data that stand in the one heap stand in the other one -/
structure Tr (H : Hp) (μ : Mu) (H' : Hp) (μ' : Mu) : Prop where
  cel : ∀ (n : Nat) a, μ.c[n]? = some a → μ'.c[n]? = some a
  rd : ∀ a o, μ.off a → (∀ ps, o ≠ .tbl ps) → Rd H a o → μ'.off a ∧ Rd H' a o
  ins : ∀ a C dx fs, μ.off a → H a = some (.ins C dx fs) → H' a = some (.ins C dx fs)
  own : ∀ a dx, μ.off dx → H dx = some (.own a) → μ'.off dx ∧ H' dx = some (.own a)
  lsx : ∀ a vs, μ.off a → H a = some (.lst vs) → H' a = some (.lst vs)
  ext : ∀ a φ, μ.off a → H a = some (.ext φ) → μ'.off a ∧ H' a = some (.ext φ)
theorem Tr.trans {H H1 H2 : Hp} {μ μ1 μ2 : Mu} (a : Tr H μ H1 μ1) (b : Tr H1 μ1 H2 μ2) : Tr H μ H2 μ2 where
  cel := fun n x h => b.cel n x (a.cel n x h)
  rd := fun x o n t h => let q := a.rd x o n t h; b.rd x o q.1 t q.2
  ins := fun x C dx fs n h => b.ins x C dx fs (a.rd x _ n (fun _ z => by cases z) (.inl h)).1 (a.ins x C dx fs n h)
  own := fun x dx n h => let q := a.own x dx n h; b.own x dx q.1 q.2
  lsx := fun x vs n h => b.lsx x vs (a.rd x _ n (fun _ z => by cases z) (.inl h)).1 (a.lsx x vs n h)
  ext := fun x φ n h => let q := a.ext x φ n h; b.ext x φ q.1 q.2
theorem Tr.refl (H : Hp) (μ : Mu) : Tr H μ H μ := ⟨fun _ _ h => h, fun _ _ n _ h => ⟨n, h⟩, fun _ _ _ _ _ h => h, fun _ _ n h => ⟨n, h⟩, fun _ _ _ h => h, fun _ _ n h => ⟨n, h⟩⟩
theorem Tr.lst {K : PySem.W.Frag} {H H' : Hp} {μ μ' : Mu} (g : Tr H μ H' μ') {a : Addr} {vs : List V} (h : LstAt K H μ a vs) : LstAt K H' μ' a vs := by
  rcases h with ⟨n, h⟩ | h
  · exact .inl (g.rd a _ n (fun _ z => by cases z) h)
  · exact .inr h
theorem Tr.tup {K : PySem.W.Frag} {H H' : Hp} {μ μ' : Mu} (g : Tr H μ H' μ') {a : Addr} {vs : List V} (h : TupAt K H μ a vs) : TupAt K H' μ' a vs := by
  rcases h with ⟨n, h⟩ | h
  · exact .inl (g.rd a _ n (fun _ z => by cases z) h)
  · exact .inr h
theorem Tr.of {H H' : Hp} {μ μ' : Mu} (c : ∀ (n : Nat) a, μ.c[n]? = some a → μ'.c[n]? = some a) (k : ∀ a o, H a = some o → μ.off a → (∀ ps, o ≠ .tbl ps) → μ'.off a ∧ H' a = some o) : Tr H μ H' μ' where
  cel := c
  rd := fun a o n t h => by
    rcases h with h | ⟨ob, h⟩
    · exact ⟨(k a _ h n t).1, .inl (k a _ h n t).2⟩
    · exact ⟨(k a _ h n (fun _ z => by cases z)).1, .inr ⟨ob, (k a _ h n (fun _ z => by cases z)).2⟩⟩
  ins := fun a C dx fs n h => (k a _ h n (fun _ z => by cases z)).2
  own := fun a dx n h => k dx _ h n (fun _ z => by cases z)
  lsx := fun a vs n h => (k a _ h n (fun _ z => by cases z)).2
  ext := fun a φ n h => k a _ h n (fun _ z => by cases z)
section
variable {K : PySem.W.Frag} {H H' : Hp} {μ μ' : Mu}
mutual
theorem Rp.tr (g : Tr H μ H' μ') : ∀ {d : D} {v : V}, Rp K H μ d v → Rp K H' μ' d v
  | .non, v, h => by simp only [Rp] at h ⊢; exact h
  | .bl b, v, h => by simp only [Rp] at h ⊢; exact h
  | .int i, v, h => by simp only [Rp] at h ⊢; exact h
  | .str l, v, h => by simp only [Rp] at h ⊢; exact h
  | .lst xs, v, h => by
    simp only [Rp] at h ⊢
    obtain ⟨a, vs, rfl, n, h1, h2⟩ := h
    exact ⟨a, vs, rfl, (g.rd a _ n (fun _ z => by cases z) (.inl h1)).1, g.lsx a vs n h1, RpL.tr g h2⟩
  | .frl xs, v, h => by
    simp only [Rp] at h ⊢
    obtain ⟨a, vs, rfl, h1, h2⟩ := h
    exact ⟨a, vs, rfl, g.lst h1, RpL.tr g h2⟩
  | .tup xs, v, h => by
    simp only [Rp] at h ⊢
    obtain ⟨a, vs, rfl, h1, h2⟩ := h
    exact ⟨a, vs, rfl, g.tup h1, RpL.tr g h2⟩
  | .dic kvs, v, h => by
    simp only [Rp] at h ⊢
    obtain ⟨a, vs, rfl, n, h1, h2⟩ := h
    exact ⟨a, vs, rfl, (g.rd a _ n (fun _ z => by cases z) h1).1, (g.rd a _ n (fun _ z => by cases z) h1).2, RpK.tr g h2⟩
  | .dit kvs, v, h => by
    simp only [Rp] at h ⊢
    obtain ⟨a, vs, rfl, n, h1, h2⟩ := h
    exact ⟨a, vs, rfl, (g.rd a _ n (fun _ z => by cases z) h1).1, (g.rd a _ n (fun _ z => by cases z) h1).2, RpT.tr g h2⟩
  | .ins C fs, v, h => by
    simp only [Rp] at h ⊢
    obtain ⟨a, dx, vs, rfl, n, n2, h1, hd, h2⟩ := h
    have q := g.own a dx n2 hd
    exact ⟨a, dx, vs, rfl, (g.rd a _ n (fun _ z => by cases z) (.inl h1)).1, q.1, g.ins a C dx vs n h1, q.2, RpF.tr g h2⟩
  | .cel n, v, h => by
    simp only [Rp] at h ⊢
    obtain ⟨a, rfl, h1⟩ := h
    exact ⟨a, rfl, g.cel n a h1⟩
  | .raw x, v, h => by simp only [Rp] at h ⊢; exact h
theorem RpL.tr (g : Tr H μ H' μ') : ∀ {ds : List D} {vs : List V}, RpL K H μ ds vs → RpL K H' μ' ds vs
  | [], _, h => by simp only [RpL] at h ⊢; exact h
  | d :: ds, _, h => by
    simp only [RpL] at h ⊢
    obtain ⟨v, r, e, h1, h2⟩ := h
    exact ⟨v, r, e, Rp.tr g h1, RpL.tr g h2⟩
theorem RpK.tr (g : Tr H μ H' μ') : ∀ {ds : List (DK × D)} {vs : List (Key × V)}, RpK K H μ ds vs → RpK K H' μ' ds vs
  | [], _, h => by simp only [RpK] at h ⊢; exact h
  | p :: ds, _, h => by
    simp only [RpK] at h ⊢
    obtain ⟨v, r, e, h1, h2⟩ := h
    exact ⟨v, r, e, RpP.tr g h1, RpK.tr g h2⟩
theorem RpP.tr (g : Tr H μ H' μ') : ∀ {p : DK × D} {v : V}, RpP K H μ p v → RpP K H' μ' p v
  | (_, d), v, h => by simp only [RpP] at h ⊢; exact Rp.tr g h
theorem RpT.tr (g : Tr H μ H' μ') : ∀ {ds : List (List DK × D)} {vs : List (List Key × V)}, RpT K H μ ds vs → RpT K H' μ' ds vs
  | [], _, h => by simp only [RpT] at h ⊢; exact h
  | p :: ds, _, h => by
    simp only [RpT] at h ⊢
    obtain ⟨v, r, e, h1, h2⟩ := h
    exact ⟨v, r, e, RpQ.tr g h1, RpT.tr g h2⟩
theorem RpQ.tr (g : Tr H μ H' μ') : ∀ {p : List DK × D} {v : V}, RpQ K H μ p v → RpQ K H' μ' p v
  | (_, d), v, h => by simp only [RpQ] at h ⊢; exact Rp.tr g h
theorem RpF.tr (g : Tr H μ H' μ') : ∀ {ds : List (Str × D)} {vs : List (Str × V)}, RpF K H μ ds vs → RpF K H' μ' ds vs
  | [], _, h => by simp only [RpF] at h ⊢; exact h
  | p :: ds, _, h => by
    simp only [RpF] at h ⊢
    obtain ⟨v, r, e, h1, h2⟩ := h
    exact ⟨v, r, e, RpG.tr g h1, RpF.tr g h2⟩
theorem RpG.tr (g : Tr H μ H' μ') : ∀ {p : Str × D} {v : V}, RpG K H μ p v → RpG K H' μ' p v
  | (_, d), v, h => by simp only [RpG] at h ⊢; exact Rp.tr g h
end
end
/-! ### what a run leaves -/
structure Go (H : Hp) (μ : Mu) (H' : Hp) (μ' : Mu) : Prop where
  pre : μ.c <+: μ'.c
  hid : μ'.h = μ.h
  tab : μ'.t = μ.t
  keep : ∀ a o, H a = some o → a ∉ μ.c → (∀ ps, o ≠ .tbl ps) → a ∉ μ'.c ∧ H' a = some o
theorem Go.refl (H : Hp) (μ : Mu) : Go H μ H μ := ⟨List.prefix_refl _, rfl, rfl, fun _ _ h n _ => ⟨n, h⟩⟩
theorem Go.trans {H H1 H2 : Hp} {μ μ1 μ2 : Mu} (a : Go H μ H1 μ1) (b : Go H1 μ1 H2 μ2) : Go H μ H2 μ2 :=
  ⟨a.pre.trans b.pre, b.hid.trans a.hid, b.tab.trans a.tab, fun x o h n t => let ⟨n1, h1⟩ := a.keep x o h n t; b.keep x o h1 n1 t⟩
theorem prefix_get {l m : List Addr} (h : l <+: m) {n : Nat} {a : Addr} (e : l[n]? = some a) : m[n]? = some a := by
  obtain ⟨t, rfl⟩ := h
  rw [List.getElem?_append_left (List.getElem?_eq_some_iff.mp e).1]
  exact e
theorem Go.tr {H H' : Hp} {μ μ' : Mu} (g : Go H μ H' μ') : Tr H μ H' μ' :=
  .of (fun n a => prefix_get g.pre) fun a o h n t => let q := g.keep a o h n.1 t; ⟨⟨q.1, by rw [g.hid]; exact n.2⟩, q.2⟩
section
variable {K : PySem.W.Frag} {H H' : Hp} {μ μ' : Mu} (g : Go H μ H' μ')
include g
theorem Rp.go {d : D} {v : V} (h : Rp K H μ d v) : Rp K H' μ' d v := h.tr g.tr
theorem RpL.go {d : List D} {v : List V} (h : RpL K H μ d v) : RpL K H' μ' d v := h.tr g.tr
theorem RpK.go {d : List (DK × D)} {v : List (Key × V)} (h : RpK K H μ d v) : RpK K H' μ' d v := h.tr g.tr
theorem RpT.go {d : List (List DK × D)} {v : List (List Key × V)} (h : RpT K H μ d v) : RpT K H' μ' d v := h.tr g.tr
theorem RpF.go {d : List (Str × D)} {v : List (Str × V)} (h : RpF K H μ d v) : RpF K H' μ' d v := h.tr g.tr
end
end DL
set_option Elab.async false
set_option linter.all false
set_option maxRecDepth 100000
set_option maxHeartbeats 2000000
namespace DL
open PySem PySem.Spec PyProof.Rows L2 Nf
/-! ### the store, the slots -/
def RpC (K : PySem.W.Frag) (H : Hp) (μ : Mu) (a : Addr) : Cell → Prop
  | .lst xs => ∃ vs, H a = some (.lst vs) ∧ RpL K H μ xs vs
  | .dic kvs => ∃ vs, H a = some (.dK vs) ∧ RpK K H μ kvs vs
  | .dit kvs => ∃ vs, H a = some (.dT vs) ∧ RpT K H μ kvs vs
  | .ins C fs => ∃ dx vs, H a = some (.ins C dx vs) ∧ H dx = some (.own a) ∧ μ.off dx ∧ RpF K H μ fs vs
  | .tab P q => a = P ∧ ∃ ps : Array Value, H P = some (.tbl ps) ∧ TriplesOk ps.toList ∧ ∀ (pos : Pos) (cv : Value), codeAmong pos ps.toList = some cv → ∃ c, cv = .ref c ∧ μ.off c ∧ H c = some (LamX.CodeO c q)
/-- neither a table nor a code object -/
def isL : HO → Prop
  | .tbl _ => False
  | .ext _ => False
  | .tup _ => False
  | _ => True
structure RpS (K : PySem.W.Frag) (H : Hp) (μ : Mu) (st : Store) : Prop where
  len : μ.c.length = st.length
  nd : μ.c.Nodup
  at_ : ∀ (n : Nat) (a : Addr) (c : Cell), μ.c[n]? = some a → st[n]? = some c → RpC K H μ a c
  hid : ∀ a, a ∈ μ.h → a ∉ μ.c ∧ ∃ o, H a = some o ∧ isL o
  tab : μ.t = []
def RpE (K : PySem.W.Frag) (H : Hp) (μ : Mu) : Env → L2.St → Prop
  | [], [] => True
  | none :: ρ, none :: σ => RpE K H μ ρ σ
  | some d :: ρ, some v :: σ => Rp K H μ d v ∧ RpE K H μ ρ σ
  | _, _ => False
section
variable {K : PySem.W.Frag} {H H' : Hp} {μ μ' : Mu}
theorem RpC.some {a : Addr} : ∀ {c : Cell}, RpC K H μ a c → ∃ o, H a = some o
  | .lst _, ⟨_, h, _⟩ => ⟨_, h⟩
  | .dic _, ⟨_, h, _⟩ => ⟨_, h⟩
  | .dit _, ⟨_, h, _⟩ => ⟨_, h⟩
  | .ins _ _, ⟨_, _, h, _⟩ => ⟨_, h⟩
  | .tab _ _, ⟨e, _, h, _⟩ => ⟨_, by rw [e]; exact h⟩
theorem RpS.live {st : Store} (s : RpS K H μ st) {a : Addr} (h : a ∈ μ.c) : ∃ o, H a = some o := by
  obtain ⟨n, hn⟩ := List.mem_iff_getElem?.mp h
  have hl : n < μ.c.length := (List.getElem?_eq_some_iff.mp hn).1
  obtain ⟨c, hc⟩ : ∃ c, st[n]? = some c := ⟨_, List.getElem?_eq_getElem (h := by rw [← s.len]; exact hl)⟩
  exact (s.at_ n a _ hn hc).some
theorem RpS.off {st : Store} (s : RpS K H μ st) {p : Addr} (h : H p = none) : μ.off p := by
  refine ⟨fun z => ?_, fun z => ?_⟩
  · obtain ⟨o, q⟩ := s.live z
    rw [h] at q; cases q
  · obtain ⟨_, o, q, _⟩ := s.hid p z
    rw [h] at q; cases q
theorem RpS.cell {st : Store} (s : RpS K H μ st) {n : Nat} {c : Cell} (h : st[n]? = some c) : ∃ a, μ.c[n]? = some a ∧ a ∈ μ.c ∧ RpC K H μ a c := by
  have hl : n < st.length := (List.getElem?_eq_some_iff.mp h).1
  obtain ⟨a, hn⟩ : ∃ a, μ.c[n]? = some a := ⟨_, List.getElem?_eq_getElem (h := by rw [s.len]; exact hl)⟩
  exact ⟨a, hn, List.mem_of_getElem? hn, s.at_ n _ c hn h⟩
theorem RpE.tr (g : Tr H μ H' μ') : ∀ {ρ : Env} {σ : L2.St}, RpE K H μ ρ σ → RpE K H' μ' ρ σ
  | [], [], _ => trivial
  | none :: ρ, none :: σ, h => RpE.tr (ρ := ρ) (σ := σ) g h
  | some d :: ρ, some v :: σ, h => ⟨h.1.tr g, RpE.tr (ρ := ρ) (σ := σ) g h.2⟩
  | [], _ :: _, h => h.elim
  | none :: _, [], h => h.elim
  | some _ :: _, [], h => h.elim
  | none :: _, some _ :: _, h => h.elim
  | some _ :: _, none :: _, h => h.elim
theorem RpE.get : ∀ {ρ : Env} {σ : L2.St} {i : Nat} {d : D}, RpE K H μ ρ σ → ρ[i]? = some (some d) → ∃ v, σ[i]? = some (some v) ∧ Rp K H μ d v
  | none :: ρ, none :: σ, 0, _, _, e => by cases e
  | some x :: ρ, some v :: σ, 0, _, h, e => by cases e; exact ⟨v, rfl, h.1⟩
  | none :: ρ, none :: σ, i + 1, _, h, e => RpE.get (ρ := ρ) (σ := σ) (i := i) h e
  | some x :: ρ, some v :: σ, i + 1, _, h, e => RpE.get (ρ := ρ) (σ := σ) (i := i) h.2 e
  | [], [], i, _, _, e => by simp at e
  | [], _ :: _, _, _, h, _ => h.elim
  | none :: _, [], _, _, h, _ => h.elim
  | some _ :: _, [], _, _, h, _ => h.elim
  | none :: _, some _ :: _, _, _, h, _ => h.elim
  | some _ :: _, none :: _, _, _, h, _ => h.elim
theorem RpE.set {d : D} {v : V} (r : Rp K H μ d v) : ∀ {ρ : Env} {σ : L2.St} (i : Nat), RpE K H μ ρ σ → RpE K H μ (ρ.set i (some d)) (σ.set i (some v))
  | [], [], _, h => h
  | none :: ρ, none :: σ, 0, h => ⟨r, h⟩
  | some x :: ρ, some u :: σ, 0, h => ⟨r, h.2⟩
  | none :: ρ, none :: σ, i + 1, h => RpE.set r (ρ := ρ) (σ := σ) i h
  | some x :: ρ, some u :: σ, i + 1, h => ⟨h.1, RpE.set r (ρ := ρ) (σ := σ) i h.2⟩
  | [], _ :: _, _, h => h.elim
  | none :: _, [], _, h => h.elim
  | some _ :: _, [], _, h => h.elim
  | none :: _, some _ :: _, _, h => h.elim
  | some _ :: _, none :: _, _, h => h.elim
theorem RpE.unset : ∀ {ρ : Env} {σ : L2.St} (i : Nat), RpE K H μ ρ σ → RpE K H μ (ρ.set i none) (σ.set i none)
  | [], [], _, h => h
  | none :: ρ, none :: σ, 0, h => h
  | some x :: ρ, some u :: σ, 0, h => h.2
  | none :: ρ, none :: σ, i + 1, h => RpE.unset (ρ := ρ) (σ := σ) i h
  | some x :: ρ, some u :: σ, i + 1, h => ⟨h.1, RpE.unset (ρ := ρ) (σ := σ) i h.2⟩
  | [], _ :: _, _, h => h.elim
  | none :: _, [], _, h => h.elim
  | some _ :: _, [], _, h => h.elim
  | none :: _, some _ :: _, _, h => h.elim
  | some _ :: _, none :: _, _, h => h.elim
def wipeD (ρ : Env) : List Nat → Env
  | [] => ρ
  | v :: vs => (wipeD ρ vs).set v none
theorem RpE.wipe {ρ : Env} {σ : L2.St} (h : RpE K H μ ρ σ) : ∀ vs, RpE K H μ (wipeD ρ vs) (L2.wipe σ vs)
  | [] => h
  | v :: vs => (RpE.wipe h vs).unset v
theorem RpE.go (g : Go H μ H' μ') {ρ : Env} {σ : L2.St} (h : RpE K H μ ρ σ) : RpE K H' μ' ρ σ := h.tr g.tr
/-- new things stand beside what stood -/
theorem Go.new {p : Addr} {o : HO} (h : H p = none) : Go H μ (upd H p o) μ :=
  ⟨List.prefix_refl _, rfl, rfl, fun a u q n _ => ⟨n, by rw [upd_ne (ne_of_none q h)]; exact q⟩⟩
theorem Go.sm (e : Sm H H') : Go H μ H' μ := ⟨List.prefix_refl _, rfl, rfl, fun a u q n _ => ⟨n, Sm.at e q⟩⟩
def Mu.add (μ : Mu) (p : Addr) : Mu := ⟨μ.c ++ [p], μ.h, μ.t⟩
def Mu.hide (μ : Mu) (p : Addr) : Mu := ⟨μ.c, p :: μ.h, μ.t⟩
theorem Go.cellNew {p : Addr} {o : HO} (h : H p = none) : Go H μ (upd H p o) (μ.add p) :=
  ⟨List.prefix_append _ _, rfl, rfl, fun a u q n _ => ⟨by
    have ne := ne_of_none q h
    simp [Mu.add, n, ne], by rw [upd_ne (ne_of_none q h)]; exact q⟩⟩
theorem Go.cellSet {p : Addr} {o : HO} (h : p ∈ μ.c) : Go H μ (upd H p o) μ :=
  ⟨List.prefix_refl _, rfl, rfl, fun a u q n _ => ⟨n, by rw [upd_ne (fun z => n (by rw [z]; exact h))]; exact q⟩⟩
theorem RpC.tr {a : Addr} (g : Tr H μ H' μ') (hs : H a = H' a) : ∀ {c : Cell}, RpC K H μ a c → RpC K H' μ' a c
  | .lst _, ⟨vs, h, r⟩ => ⟨vs, hs ▸ h, r.tr g⟩
  | .dic _, ⟨vs, h, r⟩ => ⟨vs, hs ▸ h, r.tr g⟩
  | .dit _, ⟨vs, h, r⟩ => ⟨vs, hs ▸ h, r.tr g⟩
  | .ins _ _, ⟨dx, vs, h, hd, n, r⟩ => ⟨dx, vs, hs ▸ h, (g.own a dx n hd).2, (g.own a dx n hd).1, r.tr g⟩
  | .tab P q, ⟨e, ps, h1, h2, h3⟩ => ⟨e, ps, by rw [← e, ← hs, e]; exact h1, h2, fun pos cv hc => by
    obtain ⟨c, e1, n, e2⟩ := h3 pos cv hc
    have q := g.ext c _ n e2
    exact ⟨c, e1, q.1, q.2⟩⟩
theorem RpC.go {a : Addr} (g : Go H μ H' μ') (hs : H a = H' a) {c : Cell} (h : RpC K H μ a c) : RpC K H' μ' a c := h.tr g.tr hs
theorem RpS.sm {st : Store} (s : RpS K H μ st) (e : Sm H H') : RpS K H' μ st :=
  ⟨s.len, s.nd, fun n a c h1 h2 => by
    have r := s.at_ n a c h1 h2
    obtain ⟨o, ho⟩ := r.some
    exact r.go (.sm e) (by rw [ho, Sm.at e ho]), fun a h => let ⟨n, o, q, l⟩ := s.hid a h; ⟨n, o, Sm.at e q, l⟩, s.tab⟩
theorem RpS.new {st : Store} {p : Addr} {o : HO} (s : RpS K H μ st) (h : H p = none) : RpS K (upd H p o) μ st := s.sm (Ext.new h)
theorem RpS.cellNew {st : Store} {p : Addr} {o : HO} {c : Cell} (s : RpS K H μ st) (h : H p = none) (hc : RpC K (upd H p o) (μ.add p) p c) : RpS K (upd H p o) (μ.add p) (st ++ [c]) := by
  refine ⟨by simp [Mu.add, s.len], ?_, fun n a d h1 h2 => ?_, fun a ha => ?_, s.tab⟩
  · show (μ.c ++ [p]).Nodup
    rw [List.nodup_append]
    refine ⟨s.nd, by simp, fun a ha b hb z => ?_⟩
    rw [List.mem_singleton.mp hb] at z
    exact (s.off h).1 (by rw [← z]; exact ha)
  · have h1 : (μ.c ++ [p])[n]? = some a := h1
    by_cases hn : n < μ.c.length
    · rw [List.getElem?_append_left hn] at h1
      rw [List.getElem?_append_left (by rw [← s.len]; exact hn)] at h2
      have r := s.at_ n a d h1 h2
      obtain ⟨q, hq⟩ := r.some
      exact r.go (.cellNew h) (by rw [upd_ne (ne_of_none hq h)])
    · have e : n = μ.c.length := by
        have := (List.getElem?_eq_some_iff.mp h1).1
        rw [List.length_append, List.length_singleton] at this
        omega
      subst e
      rw [List.getElem?_append_right (Nat.le_refl _), Nat.sub_self] at h1
      rw [s.len, List.getElem?_append_right (Nat.le_refl _), Nat.sub_self] at h2
      cases h1; cases h2
      exact hc
  · obtain ⟨n, o', q, l⟩ := s.hid a ha
    have ne := ne_of_none q h
    exact ⟨by simp [Mu.add, n, ne], o', by rw [upd_ne ne]; exact q, l⟩
theorem nodup_get {l : List Addr} (h : l.Nodup) {i j : Nat} {a : Addr} (h1 : l[i]? = some a) (h2 : l[j]? = some a) : i = j := by
  obtain ⟨hi, e1⟩ := List.getElem?_eq_some_iff.mp h1
  obtain ⟨hj, e2⟩ := List.getElem?_eq_some_iff.mp h2
  have q := List.pairwise_iff_getElem.mp h
  rcases Nat.lt_trichotomy i j with z | z | z
  · exact absurd (e1.trans e2.symm) (q i j hi hj z)
  · exact z
  · exact absurd (e2.trans e1.symm) (q j i hj hi z)
theorem RpS.cellSet {st : Store} {n : Nat} {p : Addr} {o : HO} {c : Cell} (s : RpS K H μ st) (h : μ.c[n]? = some p) (hc : RpC K (upd H p o) μ p c) : RpS K (upd H p o) μ (st.set n c) := by
  have hm : p ∈ μ.c := List.mem_of_getElem? h
  have hl : n < st.length := by rw [← s.len]; exact (List.getElem?_eq_some_iff.mp h).1
  refine ⟨by rw [List.length_set]; exact s.len, s.nd, fun m a d h1 h2 => ?_, fun a ha => ?_, s.tab⟩
  · by_cases e : m = n
    · subst e
      rw [h] at h1; cases h1
      rw [List.getElem?_set_self hl] at h2; cases h2
      exact hc
    · rw [List.getElem?_set_ne (fun z => e z.symm)] at h2
      have r := s.at_ m a d h1 h2
      have ne : a ≠ p := fun z => e (nodup_get s.nd h1 (z ▸ h))
      exact r.go (.cellSet hm) (by rw [upd_ne ne])
  · obtain ⟨q, o', z, l⟩ := s.hid a ha
    exact ⟨q, o', by rw [upd_ne (fun e => q (by rw [e]; exact hm))]; exact z, l⟩
/-! ### a place that is hidden for a while -/
theorem Tr.hide {p : Addr} {o : HO} (h : H p = none) : Tr H μ (upd H p o) (μ.hide p) :=
  .of (fun _ _ e => e) fun a u q n _ => by
    have ne := ne_of_none q h
    exact ⟨⟨n.1, by simp [Mu.hide, ne, n.2]⟩, by rw [upd_ne ne]; exact q⟩
theorem Tr.show {p : Addr} : Tr H (μ.hide p) H μ :=
  .of (fun _ _ e => e) fun a u q n _ => ⟨⟨n.1, fun z => n.2 (List.mem_cons_of_mem _ z)⟩, q⟩
theorem Tr.at {p : Addr} {o : HO} : Tr H (μ.hide p) (upd H p o) (μ.hide p) :=
  .of (fun _ _ e => e) fun a u q n _ => ⟨n, by rw [upd_ne (fun z => n.2 (by rw [z]; exact List.mem_cons_self))]; exact q⟩
theorem RpS.hide {st : Store} {p : Addr} {o : HO} (s : RpS K H μ st) (h : H p = none) (ho : isL o := by trivial) : RpS K (upd H p o) (μ.hide p) st := by
  refine ⟨s.len, s.nd, fun n a c h1 h2 => ?_, fun a ha => ?_, s.tab⟩
  · have r := s.at_ n a c h1 h2
    obtain ⟨q, hq⟩ := r.some
    exact r.tr (.hide h) (by rw [upd_ne (ne_of_none hq h)])
  · rcases List.mem_cons.mp ha with e | e
    · rw [e]; exact ⟨(s.off h).1, _, upd_same, ho⟩
    · obtain ⟨n, o', q, l⟩ := s.hid a e
      exact ⟨n, o', by rw [upd_ne (ne_of_none q h)]; exact q, l⟩
theorem RpS.at {st : Store} {p : Addr} {o : HO} (s : RpS K H (μ.hide p) st) (ho : isL o := by trivial) : RpS K (upd H p o) (μ.hide p) st := by
  have hp := (s.hid p List.mem_cons_self).1
  refine ⟨s.len, s.nd, fun n a c h1 h2 => ?_, fun a ha => ?_, s.tab⟩
  · exact (s.at_ n a c h1 h2).tr .at (by rw [upd_ne (fun z => hp (by rw [← z]; exact List.mem_of_getElem? h1))])
  · obtain ⟨n, o', q, l⟩ := s.hid a ha
    refine ⟨n, ?_⟩
    by_cases e : a = p
    · exact ⟨o, by rw [e, upd_same], ho⟩
    · exact ⟨o', by rw [upd_ne e]; exact q, l⟩
theorem RpS.show {st : Store} {p : Addr} (s : RpS K H (μ.hide p) st) : RpS K H μ st :=
  ⟨s.len, s.nd, fun n a c h1 h2 => (s.at_ n a c h1 h2).tr .show rfl, fun a ha => s.hid a (List.mem_cons_of_mem _ ha), s.tab⟩
end
/-! ### what a top-level value is, cells looked into -/
def dr (st : Store) : D → D
  | .cel n => match st[n]? with
    | some (.lst xs) => .lst xs
    | some (.dic kvs) => .dic kvs
    | some (.dit kvs) => .dit kvs
    | some (.ins C fs) => .ins C fs
    | _ => .cel n
  | .frl xs => .lst xs
  | d => d
section
variable {K : PySem.W.Frag} {H : Hp} {μ : Mu} {st : Store}
theorem LstAt.sq {a : Addr} {vs : List V} (h : LstAt K H μ a vs) : SqL K H a vs := by
  rcases h with ⟨_, h⟩ | h
  · exact .inl h
  · exact .inr h
theorem TupAt.sq {a : Addr} {vs : List V} (h : TupAt K H μ a vs) : SqT K H a vs := by
  rcases h with ⟨_, h⟩ | h
  · exact .inl h
  · exact .inr h
theorem Rp.lstAt (s : RpS K H μ st) : ∀ {d : D} {v : V} {xs : List D}, Rp K H μ d v → dr st d = .lst xs → ∃ a vs, v = .ref a ∧ SqL K H a vs ∧ RpL K H μ xs vs
  | .lst _, v, xs, h, e => by
    cases e
    simp only [Rp] at h
    obtain ⟨a, vs, rfl, n, h1, h2⟩ := h
    exact ⟨a, vs, rfl, SqL.of h1, h2⟩
  | .frl _, v, xs, h, e => by
    cases e
    simp only [Rp] at h
    obtain ⟨a, vs, rfl, h1, h2⟩ := h
    exact ⟨a, vs, rfl, h1.sq, h2⟩
  | .cel n, v, xs, h, e => by
    simp only [Rp] at h
    obtain ⟨a, rfl, h1⟩ := h
    simp only [dr] at e
    split at e <;> rename_i q <;> cases e
    obtain ⟨vs, g1, g2⟩ := s.at_ n a _ h1 q
    exact ⟨a, vs, rfl, SqL.of g1, g2⟩
  | .non, _, _, _, e => by cases e
  | .bl _, _, _, _, e => by cases e
  | .int _, _, _, _, e => by cases e
  | .str _, _, _, _, e => by cases e
  | .tup _, _, _, _, e => by cases e
  | .dic _, _, _, _, e => by cases e
  | .dit _, _, _, _, e => by cases e
  | .ins _ _, _, _, _, e => by cases e
  | .raw _, _, _, _, e => by cases e
theorem Rp.tupAt (s : RpS K H μ st) : ∀ {d : D} {v : V} {xs : List D}, Rp K H μ d v → dr st d = .tup xs → ∃ a vs, v = .ref a ∧ SqT K H a vs ∧ RpL K H μ xs vs
  | .tup _, v, xs, h, e => by
    cases e
    simp only [Rp] at h
    obtain ⟨a, vs, rfl, h1, h2⟩ := h
    exact ⟨a, vs, rfl, h1.sq, h2⟩
  | .cel n, v, xs, h, e => by
    simp only [dr] at e
    split at e <;> cases e
  | .lst _, _, _, _, e => by cases e
  | .non, _, _, _, e => by cases e
  | .bl _, _, _, _, e => by cases e
  | .int _, _, _, _, e => by cases e
  | .str _, _, _, _, e => by cases e
  | .dic _, _, _, _, e => by cases e
  | .dit _, _, _, _, e => by cases e
  | .ins _ _, _, _, _, e => by cases e
  | .frl _, _, _, _, e => by cases e
  | .raw _, _, _, _, e => by cases e
theorem Rp.dicAt (s : RpS K H μ st) : ∀ {d : D} {v : V} {kvs : List (DK × D)}, Rp K H μ d v → dr st d = .dic kvs → ∃ a vs, v = .ref a ∧ Rd H a (.dK vs) ∧ RpK K H μ kvs vs
  | .dic _, v, xs, h, e => by
    cases e
    simp only [Rp] at h
    obtain ⟨a, vs, rfl, n, h1, h2⟩ := h
    exact ⟨a, vs, rfl, h1, h2⟩
  | .cel n, v, xs, h, e => by
    simp only [Rp] at h
    obtain ⟨a, rfl, h1⟩ := h
    simp only [dr] at e
    split at e <;> rename_i q <;> cases e
    obtain ⟨vs, g1, g2⟩ := s.at_ n a _ h1 q
    exact ⟨a, vs, rfl, .inl g1, g2⟩
  | .lst _, _, _, _, e => by cases e
  | .non, _, _, _, e => by cases e
  | .bl _, _, _, _, e => by cases e
  | .int _, _, _, _, e => by cases e
  | .str _, _, _, _, e => by cases e
  | .tup _, _, _, _, e => by cases e
  | .dit _, _, _, _, e => by cases e
  | .ins _ _, _, _, _, e => by cases e
  | .frl _, _, _, _, e => by cases e
  | .raw _, _, _, _, e => by cases e
theorem Rp.ditAt (s : RpS K H μ st) : ∀ {d : D} {v : V} {kvs : List (List DK × D)}, Rp K H μ d v → dr st d = .dit kvs → ∃ a vs, v = .ref a ∧ Rd H a (.dT vs) ∧ RpT K H μ kvs vs
  | .dit _, v, xs, h, e => by
    cases e
    simp only [Rp] at h
    obtain ⟨a, vs, rfl, n, h1, h2⟩ := h
    exact ⟨a, vs, rfl, h1, h2⟩
  | .cel n, v, xs, h, e => by
    simp only [Rp] at h
    obtain ⟨a, rfl, h1⟩ := h
    simp only [dr] at e
    split at e <;> rename_i q <;> cases e
    obtain ⟨vs, g1, g2⟩ := s.at_ n a _ h1 q
    exact ⟨a, vs, rfl, .inl g1, g2⟩
  | .lst _, _, _, _, e => by cases e
  | .non, _, _, _, e => by cases e
  | .bl _, _, _, _, e => by cases e
  | .int _, _, _, _, e => by cases e
  | .str _, _, _, _, e => by cases e
  | .tup _, _, _, _, e => by cases e
  | .dic _, _, _, _, e => by cases e
  | .ins _ _, _, _, _, e => by cases e
  | .frl _, _, _, _, e => by cases e
  | .raw _, _, _, _, e => by cases e
theorem Rp.insAt (s : RpS K H μ st) : ∀ {d : D} {v : V} {C : Addr} {fs : List (Str × D)}, Rp K H μ d v → dr st d = .ins C fs → ∃ a dx vs, v = .ref a ∧ H a = some (.ins C dx vs) ∧ RpF K H μ fs vs
  | .ins _ _, v, _, xs, h, e => by
    cases e
    simp only [Rp] at h
    obtain ⟨a, dx, vs, rfl, n, n2, h1, hd, h2⟩ := h
    exact ⟨a, dx, vs, rfl, h1, h2⟩
  | .cel n, v, _, xs, h, e => by
    simp only [Rp] at h
    obtain ⟨a, rfl, h1⟩ := h
    simp only [dr] at e
    split at e <;> rename_i q <;> cases e
    obtain ⟨dx, vs, g1, _, _, g2⟩ := s.at_ n a _ h1 q
    exact ⟨a, dx, vs, rfl, g1, g2⟩
  | .lst _, _, _, _, _, e => by cases e
  | .non, _, _, _, _, e => by cases e
  | .bl _, _, _, _, _, e => by cases e
  | .int _, _, _, _, _, e => by cases e
  | .str _, _, _, _, _, e => by cases e
  | .tup _, _, _, _, _, e => by cases e
  | .dic _, _, _, _, _, e => by cases e
  | .dit _, _, _, _, _, e => by cases e
  | .frl _, _, _, _, _, e => by cases e
  | .raw _, _, _, _, _, e => by cases e
end
/-! ### lists of data -/
section
variable {K : PySem.W.Frag} {H : Hp} {μ : Mu}
theorem RpL.length : ∀ {ds : List D} {vs : List V}, RpL K H μ ds vs → ds.length = vs.length
  | [], _, h => by simp only [RpL] at h; rw [h]; rfl
  | d :: ds, _, h => by
    simp only [RpL] at h
    obtain ⟨v, r, rfl, _, h2⟩ := h
    rw [List.length_cons, List.length_cons, RpL.length h2]
theorem RpL.nil : RpL K H μ [] [] := by simp only [RpL]
theorem RpL.cons {d : D} {v : V} {ds : List D} {vs : List V} (h : Rp K H μ d v) (r : RpL K H μ ds vs) : RpL K H μ (d :: ds) (v :: vs) := by
  simp only [RpL]; exact ⟨v, vs, rfl, h, r⟩
theorem RpL.append : ∀ {ds es : List D} {vs ws : List V}, RpL K H μ ds vs → RpL K H μ es ws → RpL K H μ (ds ++ es) (vs ++ ws)
  | [], _, _, _, h, h' => by simp only [RpL] at h; rw [h]; exact h'
  | d :: ds, _, _, _, h, h' => by
    simp only [RpL] at h
    obtain ⟨v, r, rfl, h1, h2⟩ := h
    exact .cons h1 (RpL.append h2 h')
theorem RpL.get : ∀ {ds : List D} {vs : List V} {i : Nat} {d : D}, RpL K H μ ds vs → ds[i]? = some d → ∃ v, vs[i]? = some v ∧ Rp K H μ d v
  | d :: ds, _, 0, _, h, e => by
    cases e
    simp only [RpL] at h
    obtain ⟨v, r, rfl, h1, h2⟩ := h
    exact ⟨v, rfl, h1⟩
  | d :: ds, _, i + 1, _, h, e => by
    simp only [RpL] at h
    obtain ⟨v, r, rfl, h1, h2⟩ := h
    exact RpL.get (i := i) h2 e
  | [], _, _, _, _, e => by simp at e
theorem RpL.getV : ∀ {ds : List D} {vs : List V} {i : Nat} {v : V}, RpL K H μ ds vs → vs[i]? = some v → ∃ d, ds[i]? = some d ∧ Rp K H μ d v
  | d :: ds, _, 0, _, h, e => by
    simp only [RpL] at h
    obtain ⟨v, r, rfl, h1, h2⟩ := h
    cases e
    exact ⟨d, rfl, h1⟩
  | d :: ds, _, i + 1, _, h, e => by
    simp only [RpL] at h
    obtain ⟨v, r, rfl, h1, h2⟩ := h
    exact RpL.getV (i := i) h2 e
  | [], _, _, _, h, e => by simp only [RpL] at h; rw [h] at e; simp at e
theorem RpL.take : ∀ {ds : List D} {vs : List V} (n : Nat), RpL K H μ ds vs → RpL K H μ (ds.take n) (vs.take n)
  | _, _, 0, _ => .nil
  | [], _, n + 1, h => by simp only [RpL] at h; rw [h]; exact .nil
  | d :: ds, _, n + 1, h => by
    simp only [RpL] at h
    obtain ⟨v, r, rfl, h1, h2⟩ := h
    exact .cons h1 (RpL.take n h2)
theorem RpL.drop : ∀ {ds : List D} {vs : List V} (n : Nat), RpL K H μ ds vs → RpL K H μ (ds.drop n) (vs.drop n)
  | _, _, 0, h => h
  | [], _, n + 1, h => by simp only [RpL] at h; rw [h]; exact .nil
  | d :: ds, _, n + 1, h => by
    simp only [RpL] at h
    obtain ⟨v, r, rfl, h1, h2⟩ := h
    exact RpL.drop n h2
theorem RpL.set {d : D} {v : V} (q : Rp K H μ d v) : ∀ {ds : List D} {vs : List V} (n : Nat), RpL K H μ ds vs → RpL K H μ (ds.set n d) (vs.set n v)
  | [], _, n, h => by simp only [RpL] at h; rw [h]; exact .nil
  | e :: ds, _, 0, h => by
    simp only [RpL] at h
    obtain ⟨w, r, rfl, h1, h2⟩ := h
    exact .cons q h2
  | e :: ds, _, n + 1, h => by
    simp only [RpL] at h
    obtain ⟨w, r, rfl, h1, h2⟩ := h
    exact .cons h1 (RpL.set q n h2)
end
end DL
set_option Elab.async false
set_option linter.all false
set_option maxRecDepth 100000
set_option maxHeartbeats 2000000
namespace DL
open PySem PySem.Spec PyProof.Rows L2 Nf
abbrev QD := D → Store → Prop
abbrev QB := Bool → Store → Prop
abbrev QL := List D → Store → Prop
abbrev QE := Env → Store → Prop
/-- the meaning of an expression, a test, an argument list -/
abbrev ME := Env → Store → QD → Prop
abbrev MT := Env → Store → QB → Prop
abbrev MA := Env → Store → QL → Prop
/-- of an operation on two values, on a list of them, of a method -/
abbrev MO := Store → D → D → QD → Prop
abbrev MU := Store → D → QD → Prop
abbrev MC := Store → List D → QD → Prop
abbrev MM := Store → D → List D → QD → Prop
def Cont (K : PySem.W.Frag) (H : Hp) (μ : Mu) (Qd : QD) (Q : VK) : Prop := ∀ d st v μ' H', Qd d st → Rp K H' μ' d v → RpS K H' μ' st → Go H μ H' μ' → Q v H'
def ContB (K : PySem.W.Frag) (H : Hp) (μ : Mu) (Qd : QB) (Q : Bool → Hp → Prop) : Prop := ∀ b st μ' H', Qd b st → RpS K H' μ' st → Go H μ H' μ' → Q b H'
def ContL (K : PySem.W.Frag) (H : Hp) (μ : Mu) (Qd : QL) (Q : List V → Hp → Prop) : Prop := ∀ ds st vs μ' H', Qd ds st → RpL K H' μ' ds vs → RpS K H' μ' st → Go H μ H' μ' → Q vs H'
def lE (K : PySem.W.Frag) (m : ME) : TE := fun σ H Q => ∃ μ ρ st Qd, RpE K H μ ρ σ ∧ RpS K H μ st ∧ m ρ st Qd ∧ Cont K H μ Qd Q
def lT (K : PySem.W.Frag) (m : MT) : TT := fun σ H Q => ∃ μ ρ st Qd, RpE K H μ ρ σ ∧ RpS K H μ st ∧ m ρ st Qd ∧ ContB K H μ Qd Q
def lA (K : PySem.W.Frag) (m : MA) : TA := fun σ H Q => ∃ μ ρ st Qd, RpE K H μ ρ σ ∧ RpS K H μ st ∧ m ρ st Qd ∧ ContL K H μ Qd Q
def lO (K : PySem.W.Frag) (m : MO) : R2 := fun x y H Q => ∃ μ st a b Qd, Rp K H μ a x ∧ Rp K H μ b y ∧ RpS K H μ st ∧ m st a b Qd ∧ Cont K H μ Qd Q
def lU (K : PySem.W.Frag) (m : MU) : V → Hp → VK → Prop := fun x H Q => ∃ μ st a Qd, Rp K H μ a x ∧ RpS K H μ st ∧ m st a Qd ∧ Cont K H μ Qd Q
def lC (K : PySem.W.Frag) (m : MC) : List V → Hp → VK → Prop := fun xs H Q => ∃ μ st ds Qd, RpL K H μ ds xs ∧ RpS K H μ st ∧ m st ds Qd ∧ Cont K H μ Qd Q
def lM (K : PySem.W.Frag) (m : MM) : V → List V → Hp → VK → Prop := fun x xs H Q => ∃ μ st d ds Qd, Rp K H μ d x ∧ RpL K H μ ds xs ∧ RpS K H μ st ∧ m st d ds Qd ∧ Cont K H μ Qd Q
abbrev DE (K : PySem.W.Frag) (X : Cx) (e : Expr) (m : ME) : Prop := PE X e (lE K m)
abbrev DT (K : PySem.W.Frag) (X : Cx) (e : Expr) (m : MT) : Prop := PT X e (lT K m)
abbrev DW (K : PySem.W.Frag) (X : Cx) (e : Expr) (m : MT) : Prop := PW X e (lT K m)
abbrev DA (K : PySem.W.Frag) (X : Cx) (es : List Expr) (m : MA) : Prop := PA X es (lA K m)
theorem PE_imp {X : Cx} {e : Expr} {t t' : TE} (h : PE X e t) (i : ∀ σ H Q, t' σ H Q → t σ H Q) : PE X e t' := ⟨fun pins s σ H Q I q => h.run pins s σ H Q I (i σ H Q q)⟩
theorem PT_imp {X : Cx} {e : Expr} {t t' : TT} (h : PT X e t) (i : ∀ σ H Q, t' σ H Q → t σ H Q) : PT X e t' := ⟨fun pins s σ H Q I q => h.run pins s σ H Q I (i σ H Q q)⟩
theorem PW_imp {X : Cx} {e : Expr} {t t' : TT} (h : PW X e t) (i : ∀ σ H Q, t' σ H Q → t σ H Q) : PW X e t' := ⟨fun whole pins s σ H Q I q => h.run whole pins s σ H Q I (i σ H Q q)⟩
theorem PA_imp {X : Cx} {es : List Expr} {t t' : TA} (h : PA X es t) (i : ∀ σ H Q, t' σ H Q → t σ H Q) : PA X es t' := ⟨fun pos pins s σ H Q I q => h.run pos pins s σ H Q I (i σ H Q q)⟩
theorem OpR_imp {X : Cx} {f : Value → Value → Sem Value} {r r' : R2} (h : OpR X f r) (i : ∀ x y H Q, r' x y H Q → r x y H Q) : OpR X f r' := fun pins s σ H x y v u Q I a b q => h pins s σ H x y v u Q I a b (i _ _ _ _ q)
theorem UnR_imp {X : Cx} {f : Value → Sem Value} {r r' : V → Hp → VK → Prop} (h : UnR X f r) (i : ∀ x H Q, r' x H Q → r x H Q) : UnR X f r' := fun pins s σ H x v Q I a q => h pins s σ H x v Q I a (i _ _ _ q)
theorem CallR_imp {X : Cx} {f : Value} {r r' : List V → Hp → VK → Prop} (h : CallR X f r) (i : ∀ xs H Q, r' xs H Q → r xs H Q) : CallR X f r' := fun pins s σ H xs us Q I a q => h pins s σ H xs us Q I a (i _ _ _ q)
theorem CallR_or {X : Cx} {f : Value} {r r' : List V → Hp → VK → Prop} (h : CallR X f r) (h' : CallR X f r') : CallR X f (fun xs H Q => r xs H Q ∨ r' xs H Q) := fun pins s σ H xs us Q I a q => q.elim (h pins s σ H xs us Q I a) (h' pins s σ H xs us Q I a)
theorem UnR_or {X : Cx} {f : Value → Sem Value} {r r' : V → Hp → VK → Prop} (h : UnR X f r) (h' : UnR X f r') : UnR X f (fun x H Q => r x H Q ∨ r' x H Q) := fun pins s σ H x v Q I a q => q.elim (h pins s σ H x v Q I a) (h' pins s σ H x v Q I a)
theorem Cont.to {K : PySem.W.Frag} {H H' : Hp} {μ μ' : Mu} {Qd : QD} {Q : VK} (k : Cont K H μ Qd Q) (g : Go H μ H' μ') : Cont K H' μ' Qd Q := fun d st v μ2 H2 q r s g2 => k d st v μ2 H2 q r s (g.trans g2)
theorem ContB.to {K : PySem.W.Frag} {H H' : Hp} {μ μ' : Mu} {Qd : QB} {Q : Bool → Hp → Prop} (k : ContB K H μ Qd Q) (g : Go H μ H' μ') : ContB K H' μ' Qd Q := fun b st μ2 H2 q s g2 => k b st μ2 H2 q s (g.trans g2)
theorem ContL.to {K : PySem.W.Frag} {H H' : Hp} {μ μ' : Mu} {Qd : QL} {Q : List V → Hp → Prop} (k : ContL K H μ Qd Q) (g : Go H μ H' μ') : ContL K H' μ' Qd Q := fun b st vs μ2 H2 q r s g2 => k b st vs μ2 H2 q r s (g.trans g2)
/-- what stands as it was -/
theorem Cont.at {K : PySem.W.Frag} {H : Hp} {μ : Mu} {Qd : QD} {Q : VK} (k : Cont K H μ Qd Q) {d : D} {st : Store} {v : V} (q : Qd d st) (r : Rp K H μ d v) (s : RpS K H μ st) : Q v H := k d st v μ H q r s (.refl _ _)
theorem ContB.at {K : PySem.W.Frag} {H : Hp} {μ : Mu} {Qd : QB} {Q : Bool → Hp → Prop} (k : ContB K H μ Qd Q) {b : Bool} {st : Store} (q : Qd b st) (s : RpS K H μ st) : Q b H := k b st μ H q s (.refl _ _)
/-- a new list, a new tuple -/
theorem Cont.lst {K : PySem.W.Frag} {H : Hp} {μ : Mu} {Qd : QD} {Q : VK} (k : Cont K H μ Qd Q) {xs : List D} {vs : List V} {st : Store} {p : Addr} (q : Qd (.lst xs) st) (r : RpL K H μ xs vs) (s : RpS K H μ st) (hp : H p = none) : Q (.ref p) (upd H p (.lst vs)) :=
  k _ _ _ μ _ q (by simp only [Rp]; exact ⟨p, vs, rfl, s.off hp, upd_same, r.go (.new hp)⟩) (s.new hp) (.new hp)
theorem Cont.tup {K : PySem.W.Frag} {H : Hp} {μ : Mu} {Qd : QD} {Q : VK} (k : Cont K H μ Qd Q) {xs : List D} {vs : List V} {st : Store} {p : Addr} (q : Qd (.tup xs) st) (r : RpL K H μ xs vs) (s : RpS K H μ st) (hp : H p = none) : Q (.ref p) (upd H p (.tup vs)) :=
  k _ _ _ μ _ q (by simp only [Rp]; exact ⟨p, vs, rfl, .inl ⟨s.off hp, .inl upd_same⟩, r.go (.new hp)⟩) (s.new hp) (.new hp)
/-- a new cell -/
theorem Cont.cellLst {K : PySem.W.Frag} {H : Hp} {μ : Mu} {Qd : QD} {Q : VK} (k : Cont K H μ Qd Q) {xs : List D} {vs : List V} {st : Store} {p : Addr} (q : Qd (.cel st.length) (st ++ [.lst xs])) (r : RpL K H μ xs vs) (s : RpS K H μ st) (hp : H p = none) : Q (.ref p) (upd H p (.lst vs)) :=
  k _ _ _ (μ.add p) _ q (by simp only [Rp]; exact ⟨p, rfl, by show (μ.c ++ [p])[_]? = _; rw [← s.len, List.getElem?_append_right (Nat.le_refl _), Nat.sub_self]; rfl⟩) (s.cellNew hp ⟨vs, upd_same, r.go (.cellNew hp)⟩) (.cellNew hp)
section
variable {K : PySem.W.Frag} {X : Cx} {a b c e : Expr} {es : List Expr} {pos : Pos} {f g h : ME}
/-! ### names, constants -/
def mNm (i : Nat) : ME := fun ρ st Q => match ρ[i]? with
  | some (some d) => Q d st
  | _ => False
theorem de_nm {i : Nat} {x : Str} (hN : X.N[i]? = some x) (hv : Vis X.env.scope x) (hd : (x == ("__debug__" : Str)) = false := by decide) (hcd : (x == ("__classdict__" : Str)) = false := by decide) : DE K X (.Name x pos) (mNm i) :=
  PE_imp (pe_var hN hv hd hcd) fun σ H Q ⟨μ, ρ, st, Qd, he, hs, hm, k⟩ => by
    unfold mNm at hm
    split at hm
    · rename_i d q
      obtain ⟨v, hv, r⟩ := he.get q
      exact ⟨v, hv, k.at hm r hs⟩
    · exact hm.elim
def mC (d : D) : ME := fun _ st Q => Q d st
theorem de_c {d : D} {v : V} (h : PE X e (tC v)) (hr : ∀ H μ, Rp K H μ d v) : DE K X e (mC d) := PE_imp h fun σ H Q ⟨μ, ρ, st, Qd, he, hs, hm, k⟩ => k.at hm (hr H μ) hs
theorem de_int {i j} : DE K X (.Constant (.int i) j pos) (mC (.int i)) := de_c pe_int fun H μ => by simp only [Rp]
theorem de_bl {b j} : DE K X (.Constant (.bool b) j pos) (mC (.bl b)) := de_c pe_bl fun H μ => by simp only [Rp]
theorem de_non {j} : DE K X (.Constant .none j pos) (mC .non) := de_c pe_non fun H μ => by simp only [Rp]
theorem tx_cps (x : Str) : tx x.cps.toList = x := TL.mk_tl x
theorem de_str {x : Str} {j} : DE K X (.Constant (.str x) j pos) (mC (.str x.cps.toList)) := de_c pe_str fun H μ => by simp only [Rp]; rw [tx_cps]
theorem de_gS {x : Str} {z : Str} (hm : ∃ t, X.mg x = some (.str z t)) (hg : Gl X x := by rfl) (hd : (x == ("__debug__" : Str)) = false := by decide) : DE K X (.Name x pos) (mC (.str z.cps.toList)) := de_c (pe_gS hm hg hd) fun H μ => by simp only [Rp]; rw [tx_cps]
theorem de_gI {x : Str} {z : Int} (hm : ∃ t, X.mg x = some (.int z t)) (hg : Gl X x := by rfl) (hd : (x == ("__debug__" : Str)) = false := by decide) : DE K X (.Name x pos) (mC (.int z)) := de_c (pe_gI hm hg hd) fun H μ => by simp only [Rp]
theorem de_raw {v : V} (h : PE X e (tC v)) : DE K X e (mC (.raw v)) := de_c h fun H μ => by simp only [Rp]
/-! ### operators -/
def mBin (m : MO) (f g : ME) : ME := fun ρ st Q => f ρ st fun x st1 => g ρ st1 fun y st2 => m st2 x y Q
theorem lE_bin {m : MO} {σ : L2.St} {H : Hp} {Q : VK} (h : lE K (mBin m f g) σ H Q) : tOp (lO K m) (lE K f) (lE K g) σ H Q := by
  obtain ⟨μ, ρ, st, Qd, he, hs, hm, k⟩ := h
  exact ⟨μ, ρ, st, _, he, hs, hm, fun d1 st1 v1 μ1 H1 q1 r1 s1 g1 => ⟨μ1, ρ, st1, _, he.go g1, s1, q1, fun d2 st2 v2 μ2 H2 q2 r2 s2 g2 => ⟨μ2, st2, d1, d2, Qd, r1.go g2, r2, s2, q2, k.to (g1.trans g2)⟩⟩⟩
theorem de_bin {op : Operator} {m : MO} (ho : OpR X (binaryOp op) (lO K m)) (ha : DE K X a f) (hb : DE K X b g) : DE K X (.BinOp a op b pos) (mBin m f g) := PE_imp (pe_op ho ha hb) fun _ _ _ h => lE_bin h
theorem de_cmp {op : CmpOp} {m : MO} (ho : OpR X (compareOp op) (lO K m)) (ha : DE K X a f) (hb : DE K X b g) (hm : behindInMarks op b = false) : DE K X (.Compare a [op] [b] pos) (mBin m f g) := PE_imp (pe_cmpR ho ha hb hm) fun _ _ _ h => lE_bin h
def mUn (m : MU) (f : ME) : ME := fun ρ st Q => f ρ st fun x st1 => m st1 x Q
theorem de_un {op : UnaryOp} {m : MU} (ho : UnR X (unaryOp op) (lU K m)) (ha : DE K X a f) : DE K X (.UnaryOp op a pos) (mUn m f) := PE_imp (pe_un ho ha) fun σ H Q ⟨μ, ρ, st, Qd, he, hs, hm, k⟩ =>
  ⟨μ, ρ, st, _, he, hs, hm, fun d1 st1 v1 μ1 H1 q1 r1 s1 g1 => ⟨μ1, st1, d1, Qd, r1, s1, q1, k.to g1⟩⟩
/-! ### tests -/
def isB (d : D) (Q : Bool → Prop) : Prop := match d with
  | .bl b => Q b
  | _ => False
def mTv (f : ME) : MT := fun ρ st Q => f ρ st fun x st1 => isB x fun b => Q b st1
theorem Rp.bl_of {H : Hp} {μ : Mu} {d : D} {v : V} {Q : Bool → Prop} (r : Rp K H μ d v) (h : isB d Q) : ∃ b, d = .bl b ∧ v = .bl b ∧ Q b := by
  cases d <;> simp only [isB] at h
  rename_i b
  simp only [Rp] at r
  exact ⟨b, rfl, r, h⟩
theorem lE_tB {σ : L2.St} {H : Hp} {Q : Bool → Hp → Prop} (h : lT K (mTv f) σ H Q) : tB (lE K f) σ H Q := by
  obtain ⟨μ, ρ, st, Qd, he, hs, hm, k⟩ := h
  refine ⟨μ, ρ, st, _, he, hs, hm, fun d1 st1 v1 μ1 H1 q1 r1 s1 g1 => ?_⟩
  obtain ⟨b, rfl, rfl, q⟩ := r1.bl_of q1
  exact ⟨b, rfl, (k.to g1).at q s1⟩
theorem dt_val (h : DE K X e f) (he : ∀ whole, isTrue e X.env whole = (do let v ← whole; standAt e.pos; holding [v] (truthy v)) := by intro _; rfl) : DT K X e (mTv f) := PT_imp (pt_val h he) fun _ _ _ h => lE_tB h
theorem dt_cmp {op : CmpOp} {m : MO} (ho : OpR X (compareOp op) (lO K m)) (ha : DE K X a f) (hb : DE K X b g) (hm : behindInMarks op b = false) : DT K X (.Compare a [op] [b] pos) (mTv (mBin m f g)) := by
  refine PT_imp (pt_cmpR ho ha hb hm) fun σ H Q h => ?_
  obtain ⟨μ, ρ, st, Qd, he, hs, hm, k⟩ := h
  refine lE_bin ⟨μ, ρ, st, _, he, hs, hm, fun d1 st1 v1 μ1 H1 q1 r1 s1 g1 => ?_⟩
  obtain ⟨b, rfl, rfl, q⟩ := r1.bl_of q1
  exact ⟨b, rfl, (k.to g1).at q s1⟩
def mAnd (t u : MT) : MT := fun ρ st Q => t ρ st fun b st1 => if b = true then u ρ st1 Q else Q false st1
def mOr (t u : MT) : MT := fun ρ st Q => t ρ st fun b st1 => if b = true then Q true st1 else u ρ st1 Q
def mNot (t : MT) : MT := fun ρ st Q => t ρ st fun b st1 => Q (!b) st1
variable {t u : MT} {rest : List Expr}
theorem dw_and1 (ha : DT K X a t) : DW K X (.BoolOp .And [a] pos) t := pw_and1 ha
theorem dw_or1 (ha : DT K X a t) : DW K X (.BoolOp .Or [a] pos) t := pw_or1 ha
theorem dw_and (ha : DT K X a t) (hb : DW K X (.BoolOp .And (b :: rest) pos) u) : DW K X (.BoolOp .And (a :: b :: rest) pos) (mAnd t u) := PW_imp (pw_and ha hb) fun σ H Q ⟨μ, ρ, st, Qd, he, hs, hm, k⟩ =>
  ⟨μ, ρ, st, _, he, hs, hm, fun b st1 μ1 H1 q1 s1 g1 => by
    cases b with
    | true => exact iteT ⟨μ1, ρ, st1, Qd, he.go g1, s1, by simpa using q1, k.to g1⟩
    | false => exact iteF ((k.to g1).at (by simpa using q1) s1)⟩
theorem dw_or (ha : DT K X a t) (hb : DW K X (.BoolOp .Or (b :: rest) pos) u) : DW K X (.BoolOp .Or (a :: b :: rest) pos) (mOr t u) := PW_imp (pw_or ha hb) fun σ H Q ⟨μ, ρ, st, Qd, he, hs, hm, k⟩ =>
  ⟨μ, ρ, st, _, he, hs, hm, fun b st1 μ1 H1 q1 s1 g1 => by
    cases b with
    | false => exact iteF ⟨μ1, ρ, st1, Qd, he.go g1, s1, by simpa using q1, k.to g1⟩
    | true => exact iteT ((k.to g1).at (by simpa using q1) s1)⟩
theorem dt_not (ha : DT K X a t) : DT K X (.UnaryOp .Not a pos) (mNot t) := PT_imp (pt_not ha) fun σ H Q ⟨μ, ρ, st, Qd, he, hs, hm, k⟩ =>
  ⟨μ, ρ, st, _, he, hs, hm, fun b st1 μ1 H1 q1 s1 g1 => (k.to g1).at q1 s1⟩
/-- and, or, not as values: all but the last True or False -/
def mAndV (f g : ME) : ME := fun ρ st Q => f ρ st fun x st1 => isB x fun b => if b = true then g ρ st1 Q else Q (.bl false) st1
def mOrV (f g : ME) : ME := fun ρ st Q => f ρ st fun x st1 => isB x fun b => if b = true then Q (.bl true) st1 else g ρ st1 Q
def mNotV (f : ME) : ME := fun ρ st Q => f ρ st fun x st1 => isB x fun b => Q (.bl (!b)) st1
theorem Rp.bl (H : Hp) (μ : Mu) (b : Bool) : Rp K H μ (.bl b) (.bl b) := by simp only [Rp]
theorem Rp.int (H : Hp) (μ : Mu) (b : Int) : Rp K H μ (.int b) (.int b) := by simp only [Rp]
theorem Rp.str (H : Hp) (μ : Mu) (b : List Nat) : Rp K H μ (.str b) (.str (tx b)) := by simp only [Rp]
theorem Rp.non (H : Hp) (μ : Mu) : Rp K H μ .non .non := by simp only [Rp]
theorem de_one {op} (h : DE K X a f) : DE K X (.BoolOp op [a] pos) f := pe_one h
theorem de_and (ha : DE K X a f) (hb : DE K X (.BoolOp .And (b :: rest) pos) g) : DE K X (.BoolOp .And (a :: b :: rest) pos) (mAndV f g) := PE_imp (pe_and ha hb) fun σ H Q ⟨μ, ρ, st, Qd, he, hs, hm, k⟩ =>
  ⟨μ, ρ, st, _, he, hs, hm, fun d st1 v μ1 H1 q1 r1 s1 g1 => by
    obtain ⟨b, rfl, rfl, q⟩ := r1.bl_of q1
    refine ⟨b, rfl, ?_⟩
    cases b with
    | true => exact iteT ⟨μ1, ρ, st1, Qd, he.go g1, s1, by simpa using q, k.to g1⟩
    | false => exact iteF ((k.to g1).at (by simpa using q) (.bl _ _ _) s1)⟩
theorem de_or (ha : DE K X a f) (hb : DE K X (.BoolOp .Or (b :: rest) pos) g) : DE K X (.BoolOp .Or (a :: b :: rest) pos) (mOrV f g) := PE_imp (pe_or ha hb) fun σ H Q ⟨μ, ρ, st, Qd, he, hs, hm, k⟩ =>
  ⟨μ, ρ, st, _, he, hs, hm, fun d st1 v μ1 H1 q1 r1 s1 g1 => by
    obtain ⟨b, rfl, rfl, q⟩ := r1.bl_of q1
    refine ⟨b, rfl, ?_⟩
    cases b with
    | false => exact iteF ⟨μ1, ρ, st1, Qd, he.go g1, s1, by simpa using q, k.to g1⟩
    | true => exact iteT ((k.to g1).at (by simpa using q) (.bl _ _ _) s1)⟩
theorem de_not (ha : DE K X a f) : DE K X (.UnaryOp .Not a pos) (mNotV f) := PE_imp (pe_not ha) fun σ H Q ⟨μ, ρ, st, Qd, he, hs, hm, k⟩ =>
  ⟨μ, ρ, st, _, he, hs, hm, fun d st1 v μ1 H1 q1 r1 s1 g1 => by
    obtain ⟨b, rfl, rfl, q⟩ := r1.bl_of q1
    exact ⟨b, rfl, (k.to g1).at q (.bl _ _ _) s1⟩⟩
def mIf (t : MT) (f g : ME) : ME := fun ρ st Q => t ρ st fun b st1 => if b = true then f ρ st1 Q else g ρ st1 Q
theorem de_ifExp (hc : DT K X c t) (ha : DE K X a f) (hb : DE K X b g) : DE K X (.IfExp c a b pos) (mIf t f g) := PE_imp (pe_ifExp hc ha hb) fun σ H Q ⟨μ, ρ, st, Qd, he, hs, hm, k⟩ =>
  ⟨μ, ρ, st, _, he, hs, hm, fun b st1 μ1 H1 q1 s1 g1 => by
    cases b with
    | true => exact iteT ⟨μ1, ρ, st1, Qd, he.go g1, s1, by simpa using q1, k.to g1⟩
    | false => exact iteF ⟨μ1, ρ, st1, Qd, he.go g1, s1, by simpa using q1, k.to g1⟩⟩
/-! ### arguments, displays -/
def mNil : MA := fun _ st Q => Q [] st
def mCons (f : ME) (r : MA) : MA := fun ρ st Q => f ρ st fun x st1 => r ρ st1 fun xs st2 => Q (x :: xs) st2
variable {r : MA}
theorem da_nil : DA K X [] mNil := PA_imp pa_nil fun σ H Q ⟨μ, ρ, st, Qd, he, hs, hm, k⟩ => k _ _ _ _ _ hm .nil hs (.refl _ _)
theorem da_cons (ha : DE K X e f) (hr : DA K X es r) (hs : starEach (e :: es) X.env = (false, eval e X.env) :: starEach es X.env := by rfl) : DA K X (e :: es) (mCons f r) := PA_imp (pa_cons ha hr hs) fun σ H Q ⟨μ, ρ, st, Qd, he, hs, hm, k⟩ =>
  ⟨μ, ρ, st, _, he, hs, hm, fun d st1 v μ1 H1 q1 r1 s1 g1 => ⟨μ1, ρ, st1, _, he.go g1, s1, q1, fun ds st2 vs μ2 H2 q2 r2 s2 g2 => k _ _ _ _ _ q2 (.cons (r1.go g2) r2) s2 (g1.trans g2)⟩⟩
def mTup (r : MA) : ME := fun ρ st Q => r ρ st fun xs st1 => xs.length ≤ 1000000 ∧ Q (.tup xs) st1
def mLst (r : MA) : ME := fun ρ st Q => r ρ st fun xs st1 => xs.length ≤ 1000000 ∧ Q (.lst xs) st1
def mLstC (r : MA) : ME := fun ρ st Q => r ρ st fun xs st1 => xs.length ≤ 1000000 ∧ Q (.cel st1.length) (st1 ++ [.lst xs])
theorem de_tup {x1} (h : DA K X es r) : DE K X (.Tuple es x1 pos) (mTup r) := PE_imp (pe_tup h) fun σ H Q ⟨μ, ρ, st, Qd, he, hs, hm, k⟩ =>
  ⟨μ, ρ, st, _, he, hs, hm, fun ds st1 vs μ1 H1 q1 r1 s1 g1 => ⟨by rw [← r1.length]; exact sz5 q1.1, fun p hp => (k.to g1).tup q1.2 r1 s1 hp⟩⟩
theorem de_lst (h : DA K X es r) : DE K X (.List es pos) (mLst r) := PE_imp (pe_lst h) fun σ H Q ⟨μ, ρ, st, Qd, he, hs, hm, k⟩ =>
  ⟨μ, ρ, st, _, he, hs, hm, fun ds st1 vs μ1 H1 q1 r1 s1 g1 => ⟨by rw [← r1.length]; exact sz5 q1.1, fun p hp => (k.to g1).lst q1.2 r1 s1 hp⟩⟩
theorem de_lstC (h : DA K X es r) : DE K X (.List es pos) (mLstC r) := PE_imp (pe_lst h) fun σ H Q ⟨μ, ρ, st, Qd, he, hs, hm, k⟩ =>
  ⟨μ, ρ, st, _, he, hs, hm, fun ds st1 vs μ1 H1 q1 r1 s1 g1 => ⟨by rw [← r1.length]; exact sz5 q1.1, fun p hp => (k.to g1).cellLst q1.2 r1 s1 hp⟩⟩
/-! ### calls of what is built in -/
def mCall (m : MC) (r : MA) : ME := fun ρ st Q => r ρ st fun ds st1 => m st1 ds Q
theorem lE_call {m : MC} {σ : L2.St} {H : Hp} {Q : VK} (h : lE K (mCall m r) σ H Q) : tCB (lC K m) (lA K r) σ H Q := by
  obtain ⟨μ, ρ, st, Qd, he, hs, hm, k⟩ := h
  exact ⟨μ, ρ, st, _, he, hs, hm, fun ds st1 vs μ1 H1 q1 r1 s1 g1 => ⟨μ1, st1, ds, Qd, r1, s1, q1, k.to g1⟩⟩
theorem de_callB {id : String} {x : Str} {p : Pos} {m : MC} (hc : CallR X (.builtin id) (lC K m)) (hm : X.mg x = none) (ha : DA K X (e :: es) r) (hg : Gl X x := by rfl) (hv : bootBuiltins x = some (.builtin id) := by decide +kernel) (hn : x ≠ "__name__" := by decide) (hdb : (x == ("__debug__" : Str)) = false := by decide)
    (he : starEach (e :: es) X.env = (false, eval e X.env) :: starEach es X.env := by rfl) (hpl : (backTo pos (starEach es X.env)).any (·.1) = false := by rfl) : DE K X (.Call (.Name x p) (e :: es) [] pos) (mCall m r) :=
  PE_imp (pe_callB hc hg hm hv ha hn hdb he hpl) fun _ _ _ h => lE_call h
theorem de_callTy {T : String} {x : Str} {p : Pos} {m : MC} (hc : CallR X (.type T) (lC K m)) (hm : X.mg x = none) (ha : DA K X (e :: es) r) (hg : Gl X x := by rfl) (hv : bootBuiltins x = some (.type T) := by decide +kernel) (hn : x ≠ "__name__" := by decide) (hdb : (x == ("__debug__" : Str)) = false := by decide)
    (he : starEach (e :: es) X.env = (false, eval e X.env) :: starEach es X.env := by rfl) (hpl : (backTo pos (starEach es X.env)).any (·.1) = false := by rfl) : DE K X (.Call (.Name x p) (e :: es) [] pos) (mCall m r) :=
  PE_imp (pe_callTy hc hg hm hv ha hn hdb he hpl) fun _ _ _ h => lE_call h
end
end DL
set_option Elab.async false
set_option linter.all false
set_option maxRecDepth 100000
set_option maxHeartbeats 2000000
namespace DL
open PySem PySem.Spec PyProof.Rows L2 Nf
/-! ### statements -/
structure DEnds where
  nx : QE
  rt : QD
  bk : QE := fun _ _ => False
  ct : QE := fun _ _ => False
abbrev MS := Env → Store → DEnds → Prop
def ContE (K : PySem.W.Frag) (H : Hp) (μ : Mu) (Qd : QE) (Q : L2.St → Hp → Prop) : Prop := ∀ ρ st σ μ' H', Qd ρ st → RpE K H' μ' ρ σ → RpS K H' μ' st → Go H μ H' μ' → Q σ H'
structure ContS (K : PySem.W.Frag) (H : Hp) (μ : Mu) (De : DEnds) (Dm : Ends) : Prop where
  nx : ContE K H μ De.nx Dm.nx
  rt : Cont K H μ De.rt Dm.rt
  bk : ContE K H μ De.bk Dm.bk
  ct : ContE K H μ De.ct Dm.ct
theorem ContE.to {K : PySem.W.Frag} {H H' : Hp} {μ μ' : Mu} {Qd : QE} {Q : L2.St → Hp → Prop} (k : ContE K H μ Qd Q) (g : Go H μ H' μ') : ContE K H' μ' Qd Q := fun ρ st σ μ2 H2 q r s g2 => k ρ st σ μ2 H2 q r s (g.trans g2)
theorem ContS.to {K : PySem.W.Frag} {H H' : Hp} {μ μ' : Mu} {De : DEnds} {Dm : Ends} (k : ContS K H μ De Dm) (g : Go H μ H' μ') : ContS K H' μ' De Dm := ⟨k.nx.to g, k.rt.to g, k.bk.to g, k.ct.to g⟩
def lS (K : PySem.W.Frag) (m : MS) : TS := fun Dm σ H => ∃ μ ρ st De, RpE K H μ ρ σ ∧ RpS K H μ st ∧ m ρ st De ∧ ContS K H μ De Dm
abbrev DS (K : PySem.W.Frag) (X : Cx) (st : Stmt) (m : MS) : Prop := PS X st (lS K m)
abbrev DSs (K : PySem.W.Frag) (X : Cx) (sts : List Stmt) (m : MS) : Prop := PSs X sts (lS K m)
theorem PS_imp {X : Cx} {s : Stmt} {t t' : TS} (h : PS X s t) (i : ∀ D σ H, t' D σ H → t D σ H) : PS X s t' := ⟨fun pins s σ H D I q => h.run pins s σ H D I (i D σ H q)⟩
theorem PSs_imp {X : Cx} {s : List Stmt} {t t' : TS} (h : PSs X s t) (i : ∀ D σ H, t' D σ H → t D σ H) : PSs X s t' := ⟨fun pins s σ H D I q => h.run pins s σ H D I (i D σ H q)⟩
/-- targets -/
abbrev MG := D → Env → Store → QE → Prop
abbrev MGs := List D → Env → Store → QE → Prop
def lG (K : PySem.W.Frag) (m : MG) : TG := fun v σ H Q => ∃ μ ρ st d Qd, Rp K H μ d v ∧ RpE K H μ ρ σ ∧ RpS K H μ st ∧ m d ρ st Qd ∧ ContE K H μ Qd Q
def lGs (K : PySem.W.Frag) (m : MGs) : TGs := fun vs σ H Q => ∃ μ ρ st ds Qd, RpL K H μ ds vs ∧ RpE K H μ ρ σ ∧ RpS K H μ st ∧ m ds ρ st Qd ∧ ContE K H μ Qd Q
abbrev DG (K : PySem.W.Frag) (X : Cx) (e : Expr) (m : MG) : Prop := PG X e (lG K m)
abbrev DGs (K : PySem.W.Frag) (X : Cx) (es : List Expr) (m : MGs) : Prop := PGs X es (lGs K m)
theorem PG_imp {X : Cx} {e : Expr} {t t' : TG} (h : PG X e t) (i : ∀ v σ H Q, t' v σ H Q → t v σ H Q) : PG X e t' := ⟨fun pins s σ H v u Q I r q => h.run pins s σ H v u Q I r (i v σ H Q q)⟩
theorem PGs_imp {X : Cx} {e : List Expr} {t t' : TGs} (h : PGs X e t) (i : ∀ v σ H Q, t' v σ H Q → t v σ H Q) : PGs X e t' := ⟨fun pins s σ H v u Q I r q => h.run pins s σ H v u Q I r (i v σ H Q q)⟩
section
variable {K : PySem.W.Frag} {X : Cx} {a b c e : Expr} {es : List Expr} {pos : Pos} {f g h : ME} {t : MT} {m m' : MS} {s : Stmt} {ss : List Stmt}
def gNm (i : Nat) : MG := fun d ρ st Q => Q (ρ.set i (some d)) st
theorem dg_nm {i : Nat} {x : Str} (hN : X.N.Nodup) (hi : X.N[i]? = some x) (hx : Loc X.env.scope x) (hf : X.fn x = true ∨ X.env.scope.names.lookup x = some .local) : DG K X (.Name x pos) (gNm i) :=
  PG_imp (pg_name hN hi hx hf) fun v σ H Q ⟨μ, ρ, st, d, Qd, r, he, hs, hm, k⟩ => k _ _ _ _ _ hm (he.set r i) hs (.refl _ _)
def gNil' : MGs := fun ds ρ st Q => match ds with
  | [] => Q ρ st
  | _ => False
def gCons' (g : MG) (r : MGs) : MGs := fun ds ρ st Q => match ds with
  | d :: ds => g d ρ st fun ρ1 st1 => r ds ρ1 st1 Q
  | _ => False
theorem dgs_nil : DGs K X [] gNil' := PGs_imp pgs_nil fun vs σ H Q ⟨μ, ρ, st, ds, Qd, r, he, hs, hm, k⟩ => by
  cases ds with
  | cons _ _ => exact hm.elim
  | nil => simp only [RpL] at r; exact ⟨r, k _ _ _ _ _ hm he hs (.refl _ _)⟩
/-- in a row of targets, what is behind must still be what it was: the values stand as they are -/
theorem dgs_cons {g : MG} {r : MGs} (h1 : DG K X e g) (h2 : DGs K X es r) (hs : (assignEach (e :: es) X.env).map (·.2) = assign e X.env :: (assignEach es X.env).map (·.2) := by rfl) : DGs K X (e :: es) (gCons' g r) := by
  refine PGs_imp (pgs_cons h1 h2 hs) fun vs σ H Q ⟨μ, ρ, st, ds, Qd, rr, he, hs, hm, k⟩ => ?_
  cases ds with
  | nil => exact hm.elim
  | cons d ds =>
    simp only [RpL] at rr
    obtain ⟨v, vr, rfl, r1, r2⟩ := rr
    exact ⟨v, vr, rfl, μ, ρ, st, d, _, r1, he, hs, hm, fun ρ1 st1 σ1 μ1 H1 q1 e1 s1 g1 => ⟨μ1, ρ1, st1, ds, Qd, r2.go g1, e1, s1, q1, k.to g1⟩⟩
def gTup' (n : Nat) (g : MGs) : MG := fun d ρ st Q => match d with
  | .tup ds => ds.length = n ∧ g ds ρ st Q
  | _ => False
theorem dg_tup {n : Nat} {k : Nat} {r : MGs} (hc : X.calm = true) (h : DGs K X es r) (hK : X.K = K := by rfl)
    (hn : (assignEach es X.env).length = n := by rfl) (hst : (assignEach es X.env).findIdx? (·.1) = none := by rfl) : DG K X (.Tuple es k pos) (gTup' n r) := by
  subst hK
  refine PG_imp (pg_tup hc h hn hst) fun v σ H Q ⟨μ, ρ, st, d, Qd, rr, he, hs, hm, kk⟩ => ?_
  unfold gTup' at hm
  split at hm
  · rename_i ds
    obtain ⟨a, vs, rfl, h1, h2⟩ := rr.tupAt hs rfl
    exact ⟨a, vs, rfl, h1, by rw [← h2.length]; exact hm.1, μ, ρ, st, ds, Qd, h2, he, hs, hm.2, kk⟩
  · exact hm.elim
/-! ### statements -/
def sNext : MS := fun ρ st De => De.nx ρ st
def sSeq (m m' : MS) : MS := fun ρ st De => m ρ st { De with nx := fun ρ1 st1 => m' ρ1 st1 De }
theorem dss_nil : DSs K X [] sNext := PSs_imp pss_nil fun D σ H ⟨μ, ρ, st, De, he, hs, hm, k⟩ => k.nx _ _ _ _ _ hm he hs (.refl _ _)
theorem dss_cons (h1 : DS K X s m) (h2 : DSs K X ss m') : DSs K X (s :: ss) (sSeq m m') := PSs_imp (pss_cons h1 h2) fun D σ H ⟨μ, ρ, st, De, he, hs, hm, k⟩ =>
  ⟨μ, ρ, st, _, he, hs, hm, ⟨fun ρ1 st1 σ1 μ1 H1 q1 e1 s1 g1 => ⟨μ1, ρ1, st1, De, e1, s1, q1, k.to g1⟩, k.rt, k.bk, k.ct⟩⟩
theorem dss_one (h : DS K X s m) : DSs K X [s] m := pss_one h
def sBreak : MS := fun ρ st De => De.bk ρ st
def sCont : MS := fun ρ st De => De.ct ρ st
theorem ds_pass : DS K X (.Pass pos) sNext := PS_imp ps_pass fun D σ H ⟨μ, ρ, st, De, he, hs, hm, k⟩ => k.nx _ _ _ _ _ hm he hs (.refl _ _)
theorem ds_break : DS K X (.Break pos) sBreak := PS_imp ps_break fun D σ H ⟨μ, ρ, st, De, he, hs, hm, k⟩ => k.bk _ _ _ _ _ hm he hs (.refl _ _)
theorem ds_continue : DS K X (.Continue pos) sCont := PS_imp ps_continue fun D σ H ⟨μ, ρ, st, De, he, hs, hm, k⟩ => k.ct _ _ _ _ _ hm he hs (.refl _ _)
def sNever : MS := fun _ _ _ => False
theorem ds_never : DS K X s sNever := PS_imp ps_never fun D σ H ⟨μ, ρ, st, De, he, hs, hm, k⟩ => hm
theorem dss_never : DSs K X ss sNever := PSs_imp pss_never fun D σ H ⟨μ, ρ, st, De, he, hs, hm, k⟩ => hm
def sDrop (f : ME) : MS := fun ρ st De => f ρ st fun _ st1 => De.nx ρ st1
theorem ds_expr (he : DE K X e f) (hs : swapsWith e none pos.line X.env = pure false := by rfl) : DS K X (.Expr e pos) (sDrop f) := PS_imp (ps_expr he hs) fun D σ H ⟨μ, ρ, st, De, he, hs, hm, k⟩ =>
  ⟨μ, ρ, st, _, he, hs, hm, fun d1 st1 v1 μ1 H1 q1 r1 s1 g1 => k.nx _ _ _ _ _ q1 (he.go g1) s1 g1⟩
def sRet (f : ME) : MS := fun ρ st De => f ρ st De.rt
theorem ds_ret (he : DE K X e f) : DS K X (.Return (some e) pos) (sRet f) := PS_imp (ps_ret he) fun D σ H ⟨μ, ρ, st, De, he, hs, hm, k⟩ => ⟨μ, ρ, st, _, he, hs, hm, k.rt⟩
def sRetN : MS := fun ρ st De => De.rt .non st
theorem ds_retN : DS K X (.Return none pos) sRetN := PS_imp ps_retN fun D σ H ⟨μ, ρ, st, De, he, hs, hm, k⟩ => k.rt.at hm (.non _ _) hs
def sIf (t : MT) (m m' : MS) : MS := fun ρ st De => t ρ st fun b st1 => if b = true then m ρ st1 De else m' ρ st1 De
theorem ds_if {x y : List Stmt} (hc : DT K X c t) (ha : DSs K X x m) (hb : DSs K X y m') : DS K X (.If c x y pos) (sIf t m m') := PS_imp (ps_if hc ha hb) fun D σ H ⟨μ, ρ, st, De, he, hs, hm, k⟩ =>
  ⟨μ, ρ, st, _, he, hs, hm, fun b st1 μ1 H1 q1 s1 g1 => by
    cases b with
    | true => exact iteT ⟨μ1, ρ, st1, De, he.go g1, s1, by simpa using q1, k.to g1⟩
    | false => exact iteF ⟨μ1, ρ, st1, De, he.go g1, s1, by simpa using q1, k.to g1⟩⟩
def sAsg (f : ME) (g : MG) : MS := fun ρ st De => f ρ st fun d st1 => g d ρ st1 De.nx
theorem ds_asg {tg : Expr} {g : MG} (he : DE K X e f) (hg : DG K X tg g) (hs : swapsWithSole [tg] e pos.line X.env = pure false := by rfl) (hw : swappedStores [tg] e X.env = pure none := by rfl) (h1 : (assignEach [tg] X.env).map (·.2) = [assign tg X.env] := by rfl) : DS K X (.Assign [tg] e pos) (sAsg f g) :=
  PS_imp (ps_asg he hg hs hw h1) fun D σ H ⟨μ, ρ, st, De, he, hs, hm, k⟩ =>
  ⟨μ, ρ, st, _, he, hs, hm, fun d1 st1 v1 μ1 H1 q1 r1 s1 g1 => ⟨μ1, ρ, st1, d1, _, r1, he.go g1, s1, q1, k.nx.to g1⟩⟩
def sSet (i : Nat) (f : ME) : MS := sAsg f (gNm i)
theorem ds_set {i : Nat} {x : Str} {pos' : Pos} (hN : X.N.Nodup) (hi : X.N[i]? = some x) (hx : Loc X.env.scope x) (he : DE K X e f) (hs : swapsWith e (some (.Name x pos')) pos.line X.env = pure false := by rfl) (hf : X.fn x = true ∨ X.env.scope.names.lookup x = some .local := by first | exact .inl rfl | exact .inr rfl | assumption) : DS K X (.Assign [.Name x pos'] e pos) (sSet i f) :=
  PS_imp (ps_set hN hi hx he hs hf) fun D σ H ⟨μ, ρ, st, De, he, hs, hm, k⟩ =>
  ⟨μ, ρ, st, _, he, hs, hm, fun d1 st1 v1 μ1 H1 q1 r1 s1 g1 => k.nx _ _ _ _ _ q1 ((he.go g1).set r1 i) s1 g1⟩
end
/-! ### what is walked -/
/-- the walk J gives the items xs, in every later heap in which G stands of the store -/
structure Wk (K : PySem.W.Frag) (H : Hp) (μ : Mu) (J : It) (xs : List D) (G : Store → Prop) : Prop where
  goes : ∀ i H' μ' st, i < xs.length → Tr H μ H' μ' → RpS K H' μ' st → G st → J.go i H'
  stops : ∀ H' μ' st, Tr H μ H' μ' → RpS K H' μ' st → G st → J.stop xs.length H'
  yields : ∀ i x H' H'' μ' st d, xs[i]? = some d → Tr H μ H' μ' → RpS K H' μ' st → G st → J.yld i H' x H'' → Sm H' H'' ∧ Rp K H'' μ' d x
abbrev MI := Env → Store → (List D → (Store → Prop) → Store → Prop) → Prop
def lI (K : PySem.W.Frag) (m : MI) : TI := fun σ H R => ∃ μ ρ st Qi, RpE K H μ ρ σ ∧ RpS K H μ st ∧ m ρ st Qi ∧ ∀ xs G st1 J μ' H', Qi xs G st1 → Wk K H' μ' J xs G → RpS K H' μ' st1 → Go H μ H' μ' → R J H'
abbrev DI (K : PySem.W.Frag) (X : Cx) (tg e : Expr) (m : MI) : Prop := PI X tg e (lI K m)
theorem PI_imp {X : Cx} {tg e : Expr} {t t' : TI} (h : PI X tg e t) (i : ∀ σ H Q, t' σ H Q → t σ H Q) : PI X tg e t' := ⟨fun pins s σ H Q I q => h.run pins s σ H Q I (i σ H Q q)⟩
/-- a loop over data -/
def forD (g : MG) (m : MS) (G : Store → Prop) : List D → MS
  | [], ρ, st, De => G st ∧ De.nx ρ st
  | x :: xs, ρ, st, De => G st ∧ g x ρ st fun ρ1 st1 => m ρ1 st1 { nx := fun ρ2 st2 => forD g m G xs ρ2 st2 De, rt := De.rt, bk := De.nx, ct := fun ρ2 st2 => forD g m G xs ρ2 st2 De }
def sFor (w : MI) (g : MG) (m : MS) : MS := fun ρ st De => w ρ st fun xs G st1 => forD g m G xs ρ st1 De
section
variable {K : PySem.W.Frag} {X : Cx} {pos : Pos} {m : MS} {g : MG} {w : MI}
theorem ds_for {tg iter : Expr} {body : List Stmt} (hp : PassesOwn (model X.prog X.w) X.A X.env X.xe) (hc : X.calm = true) (hi : DI K X tg iter w) (hg : DG K X tg g) (hb : DSs K X body m)
    (hs : ∀ x, foldedSetIterable iter X.env x = pure x := by intro _; rfl) : DS K X (.For tg iter body [] pos) (sFor w g m) := by
  refine PS_imp (ps_for hp hc hi hg hb hs) fun D σ H ⟨μ, ρ, st, De, he, hs, hm, k⟩ => ?_
  refine ⟨μ, ρ, st, _, he, hs, hm, fun xs G st1 J μ1 H1 q1 wk s1 g1 => ?_⟩
  refine ⟨fun i n σ' H' => ∃ μ' ρ' st', n = xs.length - i ∧ i ≤ xs.length ∧ RpE K H' μ' ρ' σ' ∧ RpS K H' μ' st' ∧ Go H1 μ1 H' μ' ∧ forD g m G (xs.drop i) ρ' st' De, ⟨xs.length, μ1, ρ, st1, by simp, Nat.zero_le _, he.go g1, s1, .refl _ _, by simpa using q1⟩, ?_⟩
  rintro i n σ' H' ⟨μ', ρ', st', rfl, hi, e', s', g', f'⟩
  by_cases hlt : i < xs.length
  · have hd : xs.drop i = xs[i] :: xs.drop (i + 1) := List.drop_eq_getElem_cons hlt
    rw [hd] at f'
    simp only [forD] at f'
    obtain ⟨hG, f'⟩ := f'
    refine .inr ⟨wk.goes i H' μ' st' hlt g'.tr s' hG, fun σ2 H2 => ∃ μ2 ρ2 st2, RpE K H2 μ2 ρ2 σ2 ∧ RpS K H2 μ2 st2 ∧ Go H1 μ1 H2 μ2 ∧ forD g m G (xs.drop (i + 1)) ρ2 st2 De, fun σ2 H2 ⟨μ2, ρ2, st2, e2, s2, g2, f2⟩ => ⟨xs.length - (i + 1), by omega, μ2, ρ2, st2, rfl, hlt, e2, s2, g2, f2⟩, fun x H'' y => ?_⟩
    obtain ⟨sm, hx⟩ := wk.yields i x H' H'' μ' st' xs[i] (List.getElem?_eq_getElem hlt) g'.tr s' hG y
    have gx : Go H' μ' H'' μ' := .sm sm
    refine ⟨μ', ρ', st', xs[i], _, hx, e'.go gx, s'.sm sm, f', fun ρ3 st3 σ3 μ3 H3 q3 e3 s3 g3 => ?_⟩
    have gg : Go H1 μ1 H3 μ3 := (g'.trans gx).trans g3
    refine ⟨μ3, ρ3, st3, _, e3, s3, q3, ?_⟩
    refine ⟨fun ρ4 st4 σ4 μ4 H4 q4 e4 s4 g4 => ⟨μ4, ρ4, st4, e4, s4, gg.trans g4, q4⟩, (k.to g1).rt.to gg, (k.to g1).nx.to gg, fun ρ4 st4 σ4 μ4 H4 q4 e4 s4 g4 => ⟨μ4, ρ4, st4, e4, s4, gg.trans g4, q4⟩⟩
  · have e : i = xs.length := by omega
    subst e
    rw [List.drop_length] at f'
    simp only [forD] at f'
    exact .inl ⟨wk.stops H' μ' st' g'.tr s' f'.1, (k.to g1).nx ρ' st' σ' μ' H' f'.2 e' s' g'⟩
end
end DL
set_option Elab.async false
set_option linter.all false
set_option maxRecDepth 100000
set_option maxHeartbeats 2000000
namespace DL
open PySem PySem.Spec PyProof.Rows L2 Nf
/-! ### comprehensions -/
/-- [elt for tg in .. if ..]: from each item, by the slots wiped -/
def lcD (g : MG) (t : MT) (f : ME) (G : Store → Prop) (ρ : Env) : List D → Store → (List D → Store → Prop) → Prop
  | [], st, Q => G st ∧ Q [] st
  | x :: xs, st, Q => G st ∧ g x ρ st fun ρ1 st1 => t ρ1 st1 fun b st2 => if b = true then f ρ1 st2 fun y st3 => lcD g t f G ρ xs st3 fun ys st4 => Q (y :: ys) st4 else lcD g t f G ρ xs st2 Q
def mLc (w : MI) (g : MG) (t : MT) (f : ME) (vs : List Nat) : ME := fun ρ st Q => w ρ st fun xs G st1 => xs.length ≤ 1000000 ∧ lcD g t f G (wipeD ρ vs) xs st1 fun ys st2 => Q (.lst ys) st2
def mLcC (w : MI) (g : MG) (t : MT) (f : ME) (vs : List Nat) : ME := fun ρ st Q => w ρ st fun xs G st1 => xs.length ≤ 1000000 ∧ lcD g t f G (wipeD ρ vs) xs st1 fun ys st2 => Q (.cel st2.length) (st2 ++ [.lst ys])
def mYes : MT := fun _ st Q => Q true st
/-- a target that stores at the slots vs alone -/
def TgOk (tg : TG) (vs : List Nat) : Prop := ∀ (v : V) (σ : L2.St) (H : Hp) (Q : L2.St → Hp → Prop), tg v (L2.wipe σ vs) H Q → tg v (L2.wipe σ vs) H fun σ1 H1 => L2.wipe σ1 vs = L2.wipe σ vs ∧ Q σ1 H1
section
variable {K : PySem.W.Frag} {X : Cx}
theorem dts_nil : PTs X [] (lT K mYes) := ⟨fun pins s σ H Q I ⟨μ, ρ, st, Qd, he, hs, hm, k⟩ => pts_nil.run pins s σ H Q I (k.at hm hs)⟩
theorem dts_one {c : Expr} {t : MT} (h : DT K X c t) : PTs X [c] (lT K t) := pts_one h
/-- the hidden list seen again -/
theorem Go.hidTr {H1 H : Hp} {μ1 μ : Mu} {D : Addr} (hD : H1 D = none) (g : Go H1 μ1 H ⟨μ.c, μ1.h, μ1.t⟩) (e : μ.h = D :: μ1.h ∧ μ.t = μ1.t) : Tr H1 μ1 H μ :=
  .of (fun n a h => prefix_get g.pre h) fun a u q n t => by
    obtain ⟨n1, h1⟩ := g.keep a u q n.1 t
    refine ⟨⟨n1, ?_⟩, h1⟩
    rw [e.1]
    intro z
    rcases List.mem_cons.mp z with z | z
    · exact ne_of_none q hD z
    · exact n.2 z
theorem Mu.hide_eq {μ1 μ : Mu} {D : Addr} (h : μ.h = D :: μ1.h ∧ μ.t = μ1.t) : μ = Mu.hide ⟨μ.c, μ1.h, μ1.t⟩ D := by
  obtain ⟨c, hh, t⟩ := μ
  obtain ⟨h, ht⟩ := h
  obtain rfl : hh = D :: μ1.h := h
  obtain rfl : t = μ1.t := ht
  rfl
/-- a run within, then a store at the hidden place -/
theorem Go.hidAt {H1 H H' : Hp} {μ1 μ μ' : Mu} {D : Addr} {o : HO} (hD : H1 D = none) (g : Go H1 μ1 H ⟨μ.c, μ1.h, μ1.t⟩) (g' : Go H μ H' μ') : Go H1 μ1 (upd H' D o) ⟨μ'.c, μ1.h, μ1.t⟩ :=
  ⟨g.pre.trans g'.pre, rfl, rfl, fun a u q n t => by
    obtain ⟨n1, h1⟩ := g.keep a u q n t
    obtain ⟨n2, h2⟩ := g'.keep a u h1 n1 t
    exact ⟨n2, by rw [upd_ne (ne_of_none q hD)]; exact h2⟩⟩
theorem Go.hidGo {H1 H H' : Hp} {μ1 μ μ' : Mu} (g : Go H1 μ1 H ⟨μ.c, μ1.h, μ1.t⟩) (g' : Go H μ H' μ') : Go H1 μ1 H' ⟨μ'.c, μ1.h, μ1.t⟩ :=
  ⟨g.pre.trans g'.pre, rfl, rfl, fun a u q n t => by
    obtain ⟨n1, h1⟩ := g.keep a u q n t
    exact g'.keep a u h1 n1 t⟩
/-- what a comprehension's list becomes -/
def Fin (K : PySem.W.Frag) (fin : List D → Store → QD → Prop) : Prop := ∀ μ H ys vs p st Qd Q μ0 H0, RpS K H (μ.hide p) st → RpL K H (μ.hide p) ys vs → H p = some (.lst vs) → μ.off p → H0 p = none → Go H0 μ0 H μ → fin ys st Qd → Cont K H0 μ0 Qd Q → Q (.ref p) H
theorem lc_lift {g : MG} {tg : TG} {t : MT} {f : ME} {w : MI} {vs : List Nat} {σ : L2.St} {H : Hp} {Qv : VK}
    (hg : ∀ v σ H Q, lG K g v (L2.wipe σ vs) H Q → tg v (L2.wipe σ vs) H Q) (hwv : TgOk tg vs)
    {fin : List DL.D → Store → QD → Prop} (hfin : Fin K fin)
    (h : lE K (fun ρ st Qd => w ρ st fun xs G st1 => xs.length ≤ 1000000 ∧ lcD g t f G (wipeD ρ vs) xs st1 fun ys st2 => fin ys st2 Qd) σ H Qv) : tLc (lI K w) tg (lT K t) (lE K f) vs σ H Qv := by
  obtain ⟨μ, ρ, st, Qd, he, hs, hm, k⟩ := h
  refine ⟨μ, ρ, st, _, he, hs, hm, fun xs G st1 J μ1 H1 q1 wk s1 g1 => ?_⟩
  obtain ⟨hlen, q1⟩ := q1
  intro D hD
  have hDμ := s1.off hD
  refine ⟨fun i n H' => n = xs.length - i ∧ i ≤ xs.length ∧ ∃ ys μ' st' wvs, ys.length ≤ i ∧ RpS K H' μ' st' ∧ Go H1 μ1 H' ⟨μ'.c, μ1.h, μ1.t⟩ ∧ (μ'.h = D :: μ1.h ∧ μ'.t = μ1.t) ∧ H' D = some (.lst wvs) ∧ RpL K H' μ' ys wvs ∧ lcD g t f G (wipeD ρ vs) (xs.drop i) st' fun zs st2 => fin (ys ++ zs) st2 Qd,
    ⟨xs.length, by simp, Nat.zero_le _, [], μ1.hide D, st1, [], Nat.le_refl _, s1.hide hD, (.new hD : Go H1 μ1 _ ⟨μ1.c, μ1.h, μ1.t⟩), ⟨rfl, rfl⟩, upd_same, .nil, by simpa using q1⟩, ?_⟩
  rintro i n H' ⟨rfl, hi, ys, μ', st', wvs, hys, s', g', eh, hD', r', f'⟩
  have nD' : D ∉ μ'.c := (s'.hid D (by rw [eh.1]; exact List.mem_cons_self)).1
  have trx : Tr H1 μ1 H' μ' := g'.hidTr hD eh
  by_cases hlt : i < xs.length
  · have hd : xs.drop i = xs[i] :: xs.drop (i + 1) := List.drop_eq_getElem_cons hlt
    rw [hd] at f'
    simp only [lcD] at f'
    obtain ⟨hG, f'⟩ := f'
    refine .inr ⟨wk.goes i H' μ' st' hlt trx s' hG, fun H2 => ∃ ys μ' st' wvs, ys.length ≤ i + 1 ∧ RpS K H2 μ' st' ∧ Go H1 μ1 H2 ⟨μ'.c, μ1.h, μ1.t⟩ ∧ (μ'.h = D :: μ1.h ∧ μ'.t = μ1.t) ∧ H2 D = some (.lst wvs) ∧ RpL K H2 μ' ys wvs ∧ lcD g t f G (wipeD ρ vs) (xs.drop (i + 1)) st' fun zs st2 => fin (ys ++ zs) st2 Qd, fun H2 q => ⟨xs.length - (i + 1), by omega, rfl, hlt, q⟩, fun x H'' y => ?_⟩
    obtain ⟨sm, hx⟩ := wk.yields i x H' H'' μ' st' xs[i] (List.getElem?_eq_getElem hlt) trx s' hG y
    have gx : Go H' μ' H'' μ' := .sm sm
    have eρ : RpE K H'' μ' (wipeD ρ vs) (L2.wipe σ vs) := (((he.go g1).tr trx).go gx).wipe vs
    refine hwv x σ H'' _ (hg x σ H'' _ ⟨μ', wipeD ρ vs, st', xs[i], _, hx, eρ, s'.sm sm, f', fun ρ3 st3 σ3 μ3 H3 q3 e3 s3 g3 => ?_⟩)
    refine ⟨μ3, ρ3, st3, _, e3, s3, q3, fun b st4 μ4 H4 q4 s4 g4 => ?_⟩
    have gH4 : Go H' μ' H4 μ4 := (gx.trans g3).trans g4
    obtain ⟨nD4, hD4⟩ := gH4.keep D _ hD' nD' (fun _ z => by cases z)
    cases b with
    | true =>
      refine iteT ⟨μ4, ρ3, st4, _, e3.go g4, s4, by simpa using q4, fun y5 st5 v5 μ5 H5 q5 r5 s5 g5 => ?_⟩
      obtain ⟨nD5, hD5⟩ := g5.keep D _ hD4 nD4 (fun _ z => by cases z)
      have g15 : Go H' μ' H5 μ5 := gH4.trans g5
      have e5 : μ5.h = D :: μ1.h ∧ μ5.t = μ1.t := ⟨g15.hid.trans eh.1, g15.tab.trans eh.2⟩
      have eμ : μ5 = Mu.hide ⟨μ5.c, μ1.h, μ1.t⟩ D := Mu.hide_eq e5
      refine ⟨wvs, hD5, ?_, ys ++ [y5], μ5, st5, wvs ++ [v5], by simp; omega, ?_, g'.hidAt hD g15, e5, upd_same, ?_, ?_⟩
      · have := r'.length
        rw [show sizeLine = 16777216 from sizeLine_eq]; omega
      · rw [eμ] at s5 ⊢; exact s5.at
      · have t5 : Tr H5 μ5 (upd H5 D (.lst (wvs ++ [v5]))) μ5 := by rw [eμ]; exact .at
        exact ((r'.go g15).append (.cons r5 .nil)).tr t5
      · simpa using q5
    | false =>
      exact iteF ⟨ys, μ4, st4, wvs, by omega, s4, g'.hidGo gH4, ⟨gH4.hid.trans eh.1, gH4.tab.trans eh.2⟩, hD4, r'.go gH4, by simpa using q4⟩
  · have e : i = xs.length := by omega
    subst e
    rw [List.drop_length] at f'
    simp only [lcD] at f'
    have eμ : μ' = Mu.hide ⟨μ'.c, μ1.h, μ1.t⟩ D := Mu.hide_eq eh
    refine .inl ⟨wk.stops H' μ' st' trx s' f'.1, ?_⟩
    exact hfin ⟨μ'.c, μ1.h, μ1.t⟩ H' ys wvs D st' Qd Qv μ1 H1 (by rw [eμ] at s'; exact s') (by rw [eμ] at r'; exact r') hD' ⟨nD', hDμ.2⟩ hD g' (by simpa using f'.2) (k.to g1)
theorem fin_lst : Fin K fun ys st Qd => Qd (.lst ys) st := fun μ H ys vs p st Qd Q μ0 H0 s r hp hn h0 g q k =>
  k _ _ _ μ H q (by simp only [Rp]; exact ⟨p, vs, rfl, hn, hp, r.tr .show⟩) s.show g
/-- the list as a cell -/
theorem Tr.cell {H : Hp} {μ : Mu} {p : Addr} : Tr H (μ.hide p) H (μ.add p) :=
  .of (fun n a e => by
    show (μ.c ++ [p])[n]? = some a
    have e : μ.c[n]? = some a := e
    rw [List.getElem?_append_left (List.getElem?_eq_some_iff.mp e).1]; exact e) fun a u q n _ => by
    refine ⟨⟨?_, fun z => n.2 (List.mem_cons_of_mem _ z)⟩, q⟩
    intro z
    rcases List.mem_append.mp z with z | z
    · exact n.1 z
    · exact n.2 (by rw [List.mem_singleton.mp z]; exact List.mem_cons_self)
theorem wipe_out' (σ : L2.St) (i : Nat) (v : Option V) : ∀ vs : List Nat, i ∈ vs → L2.wipe (σ.set i v) vs = L2.wipe σ vs := by
  intro vs h
  apply List.ext_getElem?
  intro j
  induction vs with
  | nil => cases h
  | cons a r ih =>
    show ((L2.wipe (σ.set i v) r).set a none)[j]? = ((L2.wipe σ r).set a none)[j]?
    by_cases e : i = a
    · subst e
      by_cases ej : i = j
      · subst ej
        rw [List.getElem?_set_self', List.getElem?_set_self']
        have l1 : (L2.wipe (σ.set i v) r).length = (L2.wipe σ r).length := by rw [wipe_length, wipe_length, List.length_set]
        by_cases hl : i < (L2.wipe σ r).length
        · rw [List.getElem?_eq_getElem (by rw [l1]; exact hl), List.getElem?_eq_getElem hl]; rfl
        · rw [List.getElem?_eq_none (by rw [l1]; omega), List.getElem?_eq_none (by omega)]
      · rw [List.getElem?_set_ne ej, List.getElem?_set_ne ej]
        by_cases m : i ∈ r
        · exact ih m
        · have : ∀ r : List Nat, (L2.wipe (σ.set i v) r)[j]? = (L2.wipe σ r)[j]? := by
            intro r
            induction r with
            | nil => exact List.getElem?_set_ne ej
            | cons b t iht =>
              show ((L2.wipe (σ.set i v) t).set b none)[j]? = ((L2.wipe σ t).set b none)[j]?
              rw [List.getElem?_set, List.getElem?_set, iht]
              have l1 : (L2.wipe (σ.set i v) t).length = (L2.wipe σ t).length := by rw [wipe_length, wipe_length, List.length_set]
              rw [l1]
          exact this r
    · have m : i ∈ r := (List.mem_cons.mp h).resolve_left e
      rw [List.getElem?_set, List.getElem?_set, ih m]
      have l1 : (L2.wipe (σ.set i v) r).length = (L2.wipe σ r).length := by rw [wipe_length, wipe_length, List.length_set]
      rw [l1]
theorem wipe_get (σ : L2.St) (j : Nat) : ∀ vs : List Nat, (L2.wipe σ vs)[j]? = if j ∈ vs ∧ j < σ.length then some none else σ[j]?
  | [] => by simp [L2.wipe]
  | v :: vs => by
    show ((L2.wipe σ vs).set v none)[j]? = _
    rw [List.getElem?_set, wipe_length, wipe_get σ j vs]
    by_cases e : v = j
    · subst e
      by_cases hl : v < σ.length
      · simp [hl]
      · simp [hl]
    · have e' : j ≠ v := fun z => e z.symm
      simp [e, e']
theorem wipe_idem (σ : L2.St) (vs : List Nat) : L2.wipe (L2.wipe σ vs) vs = L2.wipe σ vs := by
  apply List.ext_getElem?
  intro j
  rw [wipe_get, wipe_get, wipe_length]
  by_cases h : j ∈ vs ∧ j < σ.length
  · simp [h]
  · simp [h]
/-- a target's meaning, and its like among the hand layer's, which stores at the slots vs alone -/
structure TOf (K : PySem.W.Frag) (T : TG) (g : MG) (vs : List Nat) : Prop where
  of : ∀ v σ H Q, lG K g v σ H Q → T v σ H Q
  ok : ∀ v σ H Q, T v σ H Q → T v σ H fun σ1 H1 => L2.wipe σ1 vs = L2.wipe σ vs ∧ Q σ1 H1
structure TOfs (K : PySem.W.Frag) (T : TGs) (g : MGs) (vs : List Nat) : Prop where
  of : ∀ v σ H Q, lGs K g v σ H Q → T v σ H Q
  ok : ∀ v σ H Q, T v σ H Q → T v σ H fun σ1 H1 => L2.wipe σ1 vs = L2.wipe σ vs ∧ Q σ1 H1
theorem TOf.tg {T : TG} {g : MG} {vs : List Nat} (h : TOf K T g vs) : TgOk T vs := fun v σ H Q q => by
  have := h.ok v _ H Q q
  rw [wipe_idem] at this
  exact this
theorem tof_nm {i : Nat} {vs : List Nat} (h : i ∈ vs := by decide) : TOf K (gName i) (gNm i) vs where
  of := fun v σ H Q ⟨μ, ρ, st, d, Qd, r, he, hs, hm, k⟩ => k _ _ _ _ _ hm (he.set r i) hs (.refl _ _)
  ok := fun v σ H Q q => ⟨wipe_out' σ i _ vs h, q⟩
theorem tofs_nil {vs : List Nat} : TOfs K gNil gNil' vs where
  of := fun v σ H Q ⟨μ, ρ, st, ds, Qd, r, he, hs, hm, k⟩ => by
    cases ds with
    | cons _ _ => exact hm.elim
    | nil => simp only [RpL] at r; exact ⟨r, k _ _ _ _ _ hm he hs (.refl _ _)⟩
  ok := fun v σ H Q q => ⟨q.1, rfl, q.2⟩
theorem tofs_cons {i : Nat} {T : TGs} {g : MGs} {vs : List Nat} (h2 : TOfs K T g vs) (h : i ∈ vs := by decide) : TOfs K (gCons (gName i) T) (gCons' (gNm i) g) vs where
  of := fun v σ H Q ⟨μ, ρ, st, ds, Qd, rr, he, hs, hm, k⟩ => by
    cases ds with
    | nil => exact hm.elim
    | cons d ds =>
      simp only [RpL] at rr
      obtain ⟨v, vr, rfl, r1, r2⟩ := rr
      exact ⟨v, vr, rfl, h2.of _ _ _ _ ⟨μ, _, st, ds, Qd, r2, he.set r1 i, hs, hm, k⟩⟩
  ok := fun v σ H Q q => by
    obtain ⟨v1, vr, e, q⟩ := q
    refine ⟨v1, vr, e, ?_⟩
    have := h2.ok _ _ _ _ q
    rw [wipe_out' σ i _ vs h] at this
    exact this
theorem tof_tup {n : Nat} {T : TGs} {g : MGs} {vs : List Nat} (h : TOfs K T g vs) : TOf K (gTup K n T) (gTup' n g) vs where
  of := fun v σ H Q ⟨μ, ρ, st, d, Qd, rr, he, hs, hm, kk⟩ => by
    unfold gTup' at hm
    split at hm
    · rename_i ds
      obtain ⟨a, vs, rfl, h1, h2⟩ := rr.tupAt hs rfl
      exact ⟨a, vs, rfl, h1, by rw [← h2.length]; exact hm.1, h.of _ _ _ _ ⟨μ, ρ, st, ds, Qd, h2, he, hs, hm.2, kk⟩⟩
    · exact hm.elim
  ok := fun v σ H Q ⟨a, xs, e, h1, h2, q⟩ => ⟨a, xs, e, h1, h2, h.ok _ _ _ _ q⟩
variable {elt tg iter : Expr} {ifs : List Expr} {scope : Scope} {own : List (Str × Nat)} {pos : Pos} {w : MI} {g : MG} {t : MT} {f : ME} {T : TG}
theorem de_lc (hc : X.calm = true) (hN : X.N.Nodup) (hi : DI K X tg iter w) (ok : BlkOk X.N X.env.scope scope own) (hT : TOf K T g (own.map (·.2)))
    (hg : ∀ (s : Shared) (H : Hp) (C : Addr) (cl : List (Str × Addr)) (fp : List Addr), PG (X.blk s H scope (compEnvC scope cl C X.env) fp) tg T) (ht : ∀ (s : Shared) (H : Hp) (C : Addr) (cl : List (Str × Addr)) (fp : List Addr), PTs (X.blk s H scope (compEnvC scope cl C X.env) fp) ifs (lT K t))
    (he : ∀ (s : Shared) (H : Hp) (C : Addr) (cl : List (Str × Addr)) (fp : List Addr), DE K (X.blk s H scope (compEnvC scope cl C X.env) fp) elt f) (hs : ∀ x, foldedSetIterable iter X.env x = pure x := by intro _; rfl) :
    DE K X (.ListComp elt [⟨tg, iter, ifs, 0⟩] scope pos) (mLc w g t f (own.map (·.2))) :=
  PE_imp (pe_lc hc hN hi ok hg ht he hs) fun σ H Q h => lc_lift (fun v σ H Q q => hT.of v _ H Q q) hT.tg fin_lst h
def sLc (i : Nat) (f : ME) : MS := sSet i f
theorem ds_lc {i : Nat} {y : Str} {py : Pos} {spos : Pos} (hc : X.calm = true) (hN : X.N.Nodup) (hy : X.N[i]? = some y) (hyl : X.env.scope.names.lookup y = some .local)
    (hsw : swapsWith (.ListComp elt [⟨tg, iter, ifs, 0⟩] scope pos) (some (.Name y py)) spos.line X.env = pure true) (hi : DI K X tg iter w) (ok : BlkOk X.N X.env.scope scope own) (hT : TOf K T g (own.map (·.2)))
    (hg : ∀ (s : Shared) (H : Hp) (C : Addr) (cl : List (Str × Addr)) (fp : List Addr), PG (X.blk s H scope (compEnvC scope cl C X.env) fp) tg T) (ht : ∀ (s : Shared) (H : Hp) (C : Addr) (cl : List (Str × Addr)) (fp : List Addr), PTs (X.blk s H scope (compEnvC scope cl C X.env) fp) ifs (lT K t))
    (he : ∀ (s : Shared) (H : Hp) (C : Addr) (cl : List (Str × Addr)) (fp : List Addr), DE K (X.blk s H scope (compEnvC scope cl C X.env) fp) elt f) (hs : ∀ x, foldedSetIterable iter X.env x = pure x := by intro _; rfl) :
    DS K X (.Assign [.Name y py] (.ListComp elt [⟨tg, iter, ifs, 0⟩] scope pos) spos) (sSet i (mLc w g t f (own.map (·.2)))) :=
  PS_imp (ps_setLc hc hN hy hyl hsw hi ok hg ht he hs) fun D σ H ⟨μ, ρ, st, De, he, hs, hm, k⟩ => by
    refine lc_lift (fun v σ H Q q => hT.of v _ H Q q) hT.tg fin_lst ⟨μ, ρ, st, fun d1 st1 => De.nx (ρ.set i (some d1)) st1, he, hs, hm, ?_⟩
    exact fun d1 st1 v1 μ1 H1 q1 r1 s1 g1 => k.nx _ _ _ _ _ q1 ((he.go g1).set r1 i) s1 g1
/-! two clauses -/
variable {tg1 iter1 : Expr} {ifs1 : List Expr} {w1 : MI} {g1 : MG} {t1 : MT} {T1 : TG} {vs vs1 : List Nat}
def lcD2 (g : MG) (t : MT) (w1 : MI) (g1 : MG) (t1 : MT) (f : ME) (vs1 : List Nat) (G : Store → Prop) (ρ : Env) : List D → Store → (List D → Store → Prop) → Prop
  | [], st, Q => G st ∧ Q [] st
  | x :: xs, st, Q => G st ∧ g x ρ st fun ρ1 st1 => t ρ1 st1 fun b st2 => if b = true then w1 ρ1 st2 fun ys G1 st3 => ys.length ≤ 1000 ∧ lcD g1 t1 f G1 (wipeD ρ1 vs1) ys st3 fun zs st4 => lcD2 g t w1 g1 t1 f vs1 G ρ xs st4 fun us st5 => Q (zs ++ us) st5 else lcD2 g t w1 g1 t1 f vs1 G ρ xs st2 Q
def mLc2 (w : MI) (g : MG) (t : MT) (w1 : MI) (g1 : MG) (t1 : MT) (f : ME) (vs vs1 : List Nat) : ME := fun ρ st Q => w ρ st fun xs G st1 => xs.length ≤ 1000 ∧ lcD2 g t w1 g1 t1 f vs1 G (wipeD ρ vs) xs st1 fun ys st2 => Q (.lst ys) st2
theorem lc2_lift {σ : L2.St} {H : Hp} {Qv : VK} {tg tg1 : TG}
    (hg : ∀ v σ H Q, lG K g v σ H Q → tg v σ H Q) (hwv : TgOk tg vs) (hg1 : ∀ v σ H Q, lG K g1 v σ H Q → tg1 v σ H Q) (hwv1 : TgOk tg1 vs1)
    {fin : List DL.D → Store → QD → Prop} (hfin : Fin K fin)
    (h : lE K (fun ρ st Qd => w ρ st fun xs G st1 => xs.length ≤ 1000 ∧ lcD2 g t w1 g1 t1 f vs1 G (wipeD ρ vs) xs st1 fun ys st2 => fin ys st2 Qd) σ H Qv) : tLc2 (lI K w) tg (lT K t) (lI K w1) tg1 (lT K t1) (lE K f) vs vs1 σ H Qv := by
  obtain ⟨μ, ρ, st, Qd, he, hs, hm, k⟩ := h
  refine ⟨μ, ρ, st, _, he, hs, hm, fun xs G st1 J μ1 H1 q1 wk s1 gg1 => ?_⟩
  obtain ⟨hlen, q1⟩ := q1
  intro D hD
  have hDμ := s1.off hD
  refine ⟨fun i n H' => n = xs.length - i ∧ i ≤ xs.length ∧ ∃ ys μ' st' wvs, ys.length ≤ i * 1000 ∧ RpS K H' μ' st' ∧ Go H1 μ1 H' ⟨μ'.c, μ1.h, μ1.t⟩ ∧ (μ'.h = D :: μ1.h ∧ μ'.t = μ1.t) ∧ H' D = some (.lst wvs) ∧ RpL K H' μ' ys wvs ∧ lcD2 g t w1 g1 t1 f vs1 G (wipeD ρ vs) (xs.drop i) st' fun zs st2 => fin (ys ++ zs) st2 Qd,
    ⟨xs.length, by simp, Nat.zero_le _, [], μ1.hide D, st1, [], Nat.zero_le _, s1.hide hD, (.new hD : Go H1 μ1 _ ⟨μ1.c, μ1.h, μ1.t⟩), ⟨rfl, rfl⟩, upd_same, .nil, by simpa using q1⟩, ?_⟩
  rintro i n H' ⟨rfl, hi, ys, μ', st', wvs, hys, s', g', eh, hD', r', f'⟩
  have nD' : D ∉ μ'.c := (s'.hid D (by rw [eh.1]; exact List.mem_cons_self)).1
  have trx : Tr H1 μ1 H' μ' := g'.hidTr hD eh
  by_cases hlt : i < xs.length
  · have hd : xs.drop i = xs[i] :: xs.drop (i + 1) := List.drop_eq_getElem_cons hlt
    rw [hd] at f'
    simp only [lcD2] at f'
    obtain ⟨hG, f'⟩ := f'
    refine .inr ⟨wk.goes i H' μ' st' hlt trx s' hG, fun H2 => ∃ ys μ' st' wvs, ys.length ≤ (i + 1) * 1000 ∧ RpS K H2 μ' st' ∧ Go H1 μ1 H2 ⟨μ'.c, μ1.h, μ1.t⟩ ∧ (μ'.h = D :: μ1.h ∧ μ'.t = μ1.t) ∧ H2 D = some (.lst wvs) ∧ RpL K H2 μ' ys wvs ∧ lcD2 g t w1 g1 t1 f vs1 G (wipeD ρ vs) (xs.drop (i + 1)) st' fun zs st2 => fin (ys ++ zs) st2 Qd, fun H2 q => ⟨xs.length - (i + 1), by omega, rfl, hlt, q⟩, fun x H'' y => ?_⟩
    obtain ⟨sm, hx⟩ := wk.yields i x H' H'' μ' st' xs[i] (List.getElem?_eq_getElem hlt) trx s' hG y
    have gx : Go H' μ' H'' μ' := .sm sm
    have eρ : RpE K H'' μ' (wipeD ρ vs) (L2.wipe σ vs) := (((he.go gg1).tr trx).go gx).wipe vs
    refine hwv x σ H'' _ (hg x _ H'' _ ⟨μ', wipeD ρ vs, st', xs[i], _, hx, eρ, s'.sm sm, f', fun ρ3 st3 σ3 μ3 H3 q3 e3 s3 g3 => ?_⟩)
    refine ⟨μ3, ρ3, st3, _, e3, s3, q3, fun b st4 μ4 H4 q4 s4 g4 => ?_⟩
    have gH4 : Go H' μ' H4 μ4 := (gx.trans g3).trans g4
    obtain ⟨nD4, hD4⟩ := gH4.keep D _ hD' nD' (fun _ z => by cases z)
    cases b with
    | true =>
      refine iteT ⟨μ4, ρ3, st4, _, e3.go g4, s4, by simpa using q4, fun us G1 st5 J1 μ5 H5 q5 wk1 s5 g5 => ?_⟩
      obtain ⟨hlen1, q5⟩ := q5
      have gH5 : Go H' μ' H5 μ5 := gH4.trans g5
      have e5 : RpE K H5 μ5 ρ3 σ3 := (e3.go g4).go g5
      obtain ⟨nD5, hD5⟩ := gH5.keep D _ hD' nD' (fun _ z => by cases z)
      have eh5 : μ5.h = D :: μ1.h ∧ μ5.t = μ1.t := ⟨gH5.hid.trans eh.1, gH5.tab.trans eh.2⟩
      -- within: H5 is where the inner walk began; what the list held then was wvs
      refine ⟨fun j n H6 => n = us.length - j ∧ j ≤ us.length ∧ ∃ zs μ6 st6 wvs6, zs.length ≤ i * 1000 + j ∧ RpS K H6 μ6 st6 ∧ Go H1 μ1 H6 ⟨μ6.c, μ1.h, μ1.t⟩ ∧ (μ6.h = D :: μ1.h ∧ μ6.t = μ1.t) ∧ Tr H5 μ5 H6 μ6 ∧ H6 D = some (.lst wvs6) ∧ RpL K H6 μ6 zs wvs6 ∧ lcD g1 t1 f G1 (wipeD ρ3 vs1) (us.drop j) st6 fun ys2 st7 => lcD2 g t w1 g1 t1 f vs1 G (wipeD ρ vs) (xs.drop (i + 1)) st7 fun us2 st8 => fin (zs ++ (ys2 ++ us2)) st8 Qd,
        ⟨us.length, by simp, Nat.zero_le _, ys, μ5, st5, wvs, by omega, s5, g'.hidGo gH5, eh5, .refl _ _, hD5, r'.go gH5, by simpa using q5⟩, ?_⟩
      rintro j n H6 ⟨rfl, hj, zs, μ6, st6, wvs6, hzs, s6, g6, eh6, tr6, hD6, r6, f6⟩
      have nD6 : D ∉ μ6.c := (s6.hid D (by rw [eh6.1]; exact List.mem_cons_self)).1
      by_cases hlt1 : j < us.length
      · have hd1 : us.drop j = us[j] :: us.drop (j + 1) := List.drop_eq_getElem_cons hlt1
        rw [hd1] at f6
        simp only [lcD] at f6
        obtain ⟨hG1, f6⟩ := f6
        refine .inr ⟨wk1.goes j H6 μ6 st6 hlt1 tr6 s6 hG1, fun H6 => ∃ zs μ6 st6 wvs6, zs.length ≤ i * 1000 + (j + 1) ∧ RpS K H6 μ6 st6 ∧ Go H1 μ1 H6 ⟨μ6.c, μ1.h, μ1.t⟩ ∧ (μ6.h = D :: μ1.h ∧ μ6.t = μ1.t) ∧ Tr H5 μ5 H6 μ6 ∧ H6 D = some (.lst wvs6) ∧ RpL K H6 μ6 zs wvs6 ∧ lcD g1 t1 f G1 (wipeD ρ3 vs1) (us.drop (j + 1)) st6 fun ys2 st7 => lcD2 g t w1 g1 t1 f vs1 G (wipeD ρ vs) (xs.drop (i + 1)) st7 fun us2 st8 => fin (zs ++ (ys2 ++ us2)) st8 Qd, fun H6 q => ⟨us.length - (j + 1), by omega, rfl, hlt1, q⟩, fun x1 H7 y1 => ?_⟩
        obtain ⟨sm7, hx7⟩ := wk1.yields j x1 H6 H7 μ6 st6 us[j] (List.getElem?_eq_getElem hlt1) tr6 s6 hG1 y1
        have gx7 : Go H6 μ6 H7 μ6 := .sm sm7
        have eρ7 : RpE K H7 μ6 (wipeD ρ3 vs1) (L2.wipe σ3 vs1) := ((e5.tr tr6).go gx7).wipe vs1
        refine hwv1 x1 σ3 H7 _ (hg1 x1 _ H7 _ ⟨μ6, wipeD ρ3 vs1, st6, us[j], _, hx7, eρ7, s6.sm sm7, f6, fun ρ8 st8 σ8 μ8 H8 q8 e8 s8 g8 => ?_⟩)
        refine ⟨μ8, ρ8, st8, _, e8, s8, q8, fun b1 st9 μ9 H9 q9 s9 g9 => ?_⟩
        have gH9 : Go H6 μ6 H9 μ9 := (gx7.trans g8).trans g9
        obtain ⟨nD9, hD9⟩ := gH9.keep D _ hD6 nD6 (fun _ z => by cases z)
        cases b1 with
        | true =>
          refine iteT ⟨μ9, ρ8, st9, _, e8.go g9, s9, by simpa using q9, fun ya sta va μa Ha qa ra sa ga => ?_⟩
          obtain ⟨nDa, hDa⟩ := ga.keep D _ hD9 nD9 (fun _ z => by cases z)
          have gHa : Go H6 μ6 Ha μa := gH9.trans ga
          have eha : μa.h = D :: μ1.h ∧ μa.t = μ1.t := ⟨gHa.hid.trans eh6.1, gHa.tab.trans eh6.2⟩
          have eμ : μa = Mu.hide ⟨μa.c, μ1.h, μ1.t⟩ D := Mu.hide_eq eha
          have ta : Tr Ha μa (upd Ha D (.lst (wvs6 ++ [va]))) μa := by rw [eμ]; exact .at
          refine ⟨wvs6, hDa, ?_, zs ++ [ya], μa, sta, wvs6 ++ [va], by simp; omega, ?_, g6.hidAt hD gHa, eha, (tr6.trans gHa.tr).trans ta, upd_same, ?_, ?_⟩
          · have := r6.length
            rw [show sizeLine = 16777216 from sizeLine_eq]
            have : i * 1000 ≤ 1000 * 1000 := Nat.mul_le_mul_right _ (by omega)
            omega
          · rw [eμ] at sa ⊢; exact sa.at
          · exact ((r6.go gHa).append (.cons ra .nil)).tr ta
          · simpa using qa
        | false =>
          exact iteF ⟨zs, μ9, st9, wvs6, by omega, s9, g6.hidGo gH9, ⟨gH9.hid.trans eh6.1, gH9.tab.trans eh6.2⟩, tr6.trans gH9.tr, hD9, r6.go gH9, by simpa using q9⟩
      · have e : j = us.length := by omega
        subst e
        rw [List.drop_length] at f6
        simp only [lcD] at f6
        refine .inl ⟨wk1.stops H6 μ6 st6 tr6 s6 f6.1, zs, μ6, st6, wvs6, ?_, s6, g6, eh6, hD6, r6, by simpa using f6.2⟩
        have : (i + 1) * 1000 = i * 1000 + 1000 := by omega
        omega
    | false =>
      exact iteF ⟨ys, μ4, st4, wvs, by omega, s4, g'.hidGo gH4, ⟨gH4.hid.trans eh.1, gH4.tab.trans eh.2⟩, hD4, r'.go gH4, by simpa using q4⟩
  · have e : i = xs.length := by omega
    subst e
    rw [List.drop_length] at f'
    simp only [lcD2] at f'
    have eμ : μ' = Mu.hide ⟨μ'.c, μ1.h, μ1.t⟩ D := Mu.hide_eq eh
    refine .inl ⟨wk.stops H' μ' st' trx s' f'.1, ?_⟩
    exact hfin ⟨μ'.c, μ1.h, μ1.t⟩ H' ys wvs D st' Qd Qv μ1 H1 (by rw [eμ] at s'; exact s') (by rw [eμ] at r'; exact r') hD' ⟨nD', hDμ.2⟩ hD g' (by simpa using f'.2) (k.to gg1)
theorem de_lc2 (hc : X.calm = true) (hN : X.N.Nodup) (hi : DI K X tg iter w) (ok : BlkOk X.N X.env.scope scope own) (hT : TOf K T g (own.map (·.2))) (hT1 : TOf K T1 g1 vs1) (hv : ∀ i ∈ vs1, i ∈ own.map (·.2))
    (hg : ∀ (s : Shared) (H : Hp) (C : Addr) (cl : List (Str × Addr)) (fp : List Addr), PG (X.blk s H scope (compEnvC scope cl C X.env) fp) tg T) (ht : ∀ (s : Shared) (H : Hp) (C : Addr) (cl : List (Str × Addr)) (fp : List Addr), PTs (X.blk s H scope (compEnvC scope cl C X.env) fp) ifs (lT K t))
    (hi1 : ∀ (s : Shared) (H : Hp) (C : Addr) (cl : List (Str × Addr)) (fp : List Addr), DI K (X.blk s H scope (compEnvC scope cl C X.env) fp) tg1 iter1 w1)
    (hg1 : ∀ (s : Shared) (H : Hp) (C : Addr) (cl : List (Str × Addr)) (fp : List Addr), PG (X.blk s H scope (compEnvC scope cl C X.env) fp) tg1 T1) (ht1 : ∀ (s : Shared) (H : Hp) (C : Addr) (cl : List (Str × Addr)) (fp : List Addr), PTs (X.blk s H scope (compEnvC scope cl C X.env) fp) ifs1 (lT K t1))
    (he : ∀ (s : Shared) (H : Hp) (C : Addr) (cl : List (Str × Addr)) (fp : List Addr), DE K (X.blk s H scope (compEnvC scope cl C X.env) fp) elt f) (hs : ∀ x, foldedSetIterable iter X.env x = pure x := by intro _; rfl) (hs1 : ∀ env x, foldedSetIterable iter1 env x = pure x := by intro _ _; rfl) :
    DE K X (.ListComp elt [⟨tg, iter, ifs, 0⟩, ⟨tg1, iter1, ifs1, 0⟩] scope pos) (mLc2 w g t w1 g1 t1 f (own.map (·.2)) vs1) :=
  PE_imp (pe_lc2 hc hN hi ok hv hg ht hi1 hg1 ht1 he hs hs1) fun σ H Q h => lc2_lift (fun v σ H Q q => hT.of v _ H Q q) hT.tg (fun v σ H Q q => hT1.of v _ H Q q) hT1.tg fin_lst h
end
end DL
set_option Elab.async false
set_option linter.all false
set_option maxRecDepth 100000
set_option maxHeartbeats 2000000
namespace DL
open PySem PySem.Spec PyProof.Rows L2 Nf
/-! ### what is walked: values first, then the walk -/
def PVr (X : Cx) (tg : Expr) (w : V → Hp → (It → Hp → Prop) → Prop) : Prop :=
  ∀ (pins : List (Addr × Obj)) (s : Shared) (σ : L2.St) (H : Hp) (v : V) (u : Value) (R : It → Hp → Prop), Inv X pins σ H s → RelV v u → w v H R → wpAny (model X.prog X.w) X.A (pyIter u) (PIE X pins σ tg R) X.xe s
section
variable {X : Cx} {tg e : Expr} {K : PySem.W.Frag}
theorem pi_of {te : TE} {w : V → Hp → (It → Hp → Prop) → Prop} (he : PE X e te) (h : PVr X tg w) : PI X tg e (fun σ H R => te σ H fun x H1 => w x H1 R) :=
  ⟨fun pins s σ H R I hw => thn (he.run pins s σ H _ I hw) fun v s1 ⟨x, H1, I1, r1, q1⟩ => h pins s1 σ H1 x v R I1 r1 q1⟩
theorem PVr_or {w w' : V → Hp → (It → Hp → Prop) → Prop} (h : PVr X tg w) (h' : PVr X tg w') : PVr X tg (fun v H R => w v H R ∨ w' v H R) :=
  fun pins s σ H v u R I r q => q.elim (h pins s σ H v u R I r) (h' pins s σ H v u R I r)
theorem pv_list : PVr X tg (fun x H R => ∃ a, x = .ref a ∧ (∃ xs, SqL X.K H a xs) ∧ R (Itl X.K a) H) := fun pins s1 σ H1 v u R I1 r1 ⟨a, e, ⟨xs, hq⟩, q⟩ => by
  subst e
  cases r1
  obtain ⟨its, rv, p, hz⟩ := I1.list hq
  refine wpAny_pyIter_list p.isList ?_
  refine ⟨s1.heap.objs.size, [s1.heap.objs.size], _, _, H1, rfl, I1.kept (t' := s1.toks) fun b o e => Heap.get?_push_of_some _ e, turn_list a _, ⟨_, Heap.get?_push_size _ rfl, rfl, rfl⟩, fun b hb => ?_, q⟩
  have e : b = s1.heap.objs.size := by simpa using hb
  subst e
  exact I1.fpOk (Nat.le_refl _) (I1.hok.fresh (Nat.le_refl _))
theorem pv_tup : PVr X tg (fun x H R => ∃ a, x = .ref a ∧ (∃ xs, SqT X.K H a xs) ∧ R (Itt X.K a) H) := fun pins s1 σ H1 v u R I1 r1 ⟨a, e, ⟨xs, hq⟩, q⟩ => by
  subst e
  cases r1
  obtain ⟨its, rv, p, hz⟩ := I1.tuple hq
  refine wpAny_pyIter_tuple (show s1.heap.IsTuple a its.toArray from p) ?_
  refine ⟨s1.heap.objs.size, [s1.heap.objs.size], _, _, H1, rfl, I1.kept (t' := s1.toks) fun b o e => Heap.get?_push_of_some _ e, turn_tuple a _, ⟨_, Heap.get?_push_size _ rfl, rfl, rfl⟩, fun b hb => ?_, q⟩
  have e : b = s1.heap.objs.size := by simpa using hb
  subst e
  exact I1.fpOk (Nat.le_refl _) (I1.hok.fresh (Nat.le_refl _))
theorem pv_str : PVr X tg (fun v H R => ∃ x, v = .str x ∧ R (Its x) H) := fun pins s1 σ H1 v u R I1 r1 ⟨x, ex, q⟩ => by
  subst ex
  obtain ⟨t, rfl⟩ := r1
  cases ha : x.cps.all (· < 128)
  · exact wpAny_pyIter_wide ha (pi_one (tk := s1.toks) I1 _ (turn_str _ x t "str_iterator" (.inr rfl)) ⟨_, Heap.get?_push_size _ rfl, rfl, rfl⟩ q)
  · exact wpAny_pyIter_ascii ha (pi_one (tk := s1.toks) I1 _ (turn_str _ x t "str_ascii_iterator" (.inl rfl)) ⟨_, Heap.get?_push_size _ rfl, rfl, rfl⟩ q)
/-- the items of a list, a tuple, a text, with what must stand -/
def itemsD (st : Store) (d : D) (Q : List D → (Store → Prop) → Prop) : Prop := match d with
  | .lst xs => Q xs fun _ => True
  | .frl xs => Q xs fun _ => True
  | .tup xs => Q xs fun _ => True
  | .str l => Q (l.map fun c => .str [c]) fun _ => True
  | .cel n => match st[n]? with
    | some (.lst xs) => Q xs fun st' => st'[n]? = some (.lst xs)
    | _ => False
  | _ => False
def iSeq (f : ME) : MI := fun ρ st Q => f ρ st fun d st1 => itemsD st1 d fun xs G => Q xs G st1
theorem wk_lst {H : Hp} {μ : Mu} {a : Addr} {vs : List V} {xs : List D} (h : LstAt K H μ a vs) (r : RpL K H μ xs vs) : Wk K H μ (Itl K a) xs fun _ => True where
  goes := fun i H' μ' st hi g s _ => by
    obtain ⟨v, hv, _⟩ := r.get (List.getElem?_eq_getElem hi)
    exact ⟨vs, v, (g.lst h).sq, hv⟩
  stops := fun H' μ' st g s _ => ⟨vs, (g.lst h).sq, by rw [r.length]; exact Nat.le_refl _⟩
  yields := fun i x H' H'' μ' st d hd g s _ ⟨e, y⟩ => by
    subst e
    obtain ⟨v, hv, rv⟩ := r.get hd
    have := y vs (g.lst h).sq
    rw [hv] at this; cases this
    exact ⟨.refl _ _, rv.tr g⟩
theorem wk_tup {H : Hp} {μ : Mu} {a : Addr} {vs : List V} {xs : List D} (h : TupAt K H μ a vs) (r : RpL K H μ xs vs) : Wk K H μ (Itt K a) xs fun _ => True where
  goes := fun i H' μ' st hi g s _ => by
    obtain ⟨v, hv, _⟩ := r.get (List.getElem?_eq_getElem hi)
    exact ⟨vs, v, (g.tup h).sq, hv⟩
  stops := fun H' μ' st g s _ => ⟨vs, (g.tup h).sq, by rw [r.length]; exact Nat.le_refl _⟩
  yields := fun i x H' H'' μ' st d hd g s _ ⟨e, y⟩ => by
    subst e
    obtain ⟨v, hv, rv⟩ := r.get hd
    have := y vs (g.tup h).sq
    rw [hv] at this; cases this
    exact ⟨.refl _ _, rv.tr g⟩
theorem wk_cel {H : Hp} {μ : Mu} {a : Addr} {n : Nat} {xs : List D} (h : μ.c[n]? = some a) : Wk K H μ (Itl K a) xs fun st => st[n]? = some (.lst xs) where
  goes := fun i H' μ' st hi g s hG => by
    obtain ⟨vs, h1, r⟩ := s.at_ n a _ (g.cel n a h) hG
    obtain ⟨v, hv, _⟩ := r.get (List.getElem?_eq_getElem hi)
    exact ⟨vs, v, SqL.of h1, hv⟩
  stops := fun H' μ' st g s hG => by
    obtain ⟨vs, h1, r⟩ := s.at_ n a _ (g.cel n a h) hG
    exact ⟨vs, SqL.of h1, by rw [r.length]; exact Nat.le_refl _⟩
  yields := fun i x H' H'' μ' st d hd g s hG ⟨e, y⟩ => by
    subst e
    obtain ⟨vs, h1, r⟩ := s.at_ n a _ (g.cel n a h) hG
    obtain ⟨v, hv, rv⟩ := r.get hd
    have := y vs (SqL.of h1)
    rw [hv] at this; cases this
    exact ⟨.refl _ _, rv⟩
theorem wk_str {H : Hp} {μ : Mu} {l : List Nat} : Wk K H μ (Its (tx l)) (l.map fun c => .str [c]) fun _ => True where
  goes := fun i H' μ' st hi g s _ => by
    show i < (tx l).cps.size
    rw [tx_size]; simpa using hi
  stops := fun H' μ' st g s _ => by
    show (tx l).cps.size ≤ _
    rw [tx_size]; simp
  yields := fun i x H' H'' μ' st d hd g s _ ⟨e, c, hc, hx⟩ => by
    subst e hx
    rw [tx_get] at hc
    rw [List.getElem?_map, hc] at hd
    cases hd
    exact ⟨.refl _ _, by simp only [Rp]; rfl⟩
theorem di_seq {f : ME} (he : DE K X e f) (hK : X.K = K := by rfl) : DI K X tg e (iSeq f) := by
  subst hK
  refine PI_imp (pi_of he (PVr_or pv_list (PVr_or pv_tup pv_str))) fun σ H R ⟨μ, ρ, st, Qi, he, hs, hm, k⟩ => ?_
  refine ⟨μ, ρ, st, _, he, hs, hm, fun d st1 v μ1 H1 q1 r1 s1 g1 => ?_⟩
  cases d with
  | lst xs =>
    simp only [Rp] at r1
    obtain ⟨a, vs, rfl, n, h1, h2⟩ := r1
    exact .inl ⟨a, rfl, ⟨vs, SqL.of h1⟩, k _ _ _ _ _ _ q1 (wk_lst (.inl ⟨n, .inl h1⟩) h2) s1 g1⟩
  | frl xs =>
    simp only [Rp] at r1
    obtain ⟨a, vs, rfl, h1, h2⟩ := r1
    exact .inl ⟨a, rfl, ⟨vs, h1.sq⟩, k _ _ _ _ _ _ q1 (wk_lst h1 h2) s1 g1⟩
  | tup xs =>
    simp only [Rp] at r1
    obtain ⟨a, vs, rfl, h1, h2⟩ := r1
    exact .inr (.inl ⟨a, rfl, ⟨vs, h1.sq⟩, k _ _ _ _ _ _ q1 (wk_tup h1 h2) s1 g1⟩)
  | str l =>
    simp only [Rp] at r1
    subst r1
    exact .inr (.inr ⟨_, rfl, k _ _ _ _ _ _ q1 wk_str s1 g1⟩)
  | cel n =>
    simp only [Rp] at r1
    obtain ⟨a, rfl, h1⟩ := r1
    simp only [itemsD] at q1
    split at q1
    · rename_i xs e
      obtain ⟨vs, h2, _⟩ := s1.at_ n a _ h1 e
      exact .inl ⟨a, rfl, ⟨vs, SqL.of h2⟩, k _ _ _ _ _ _ q1 (wk_cel h1) s1 g1⟩
    · exact q1.elim
  | _ => exact q1.elim
/-! ranges -/
def rngD (lo : Int) (n : Nat) : List D := (List.range n).map fun (i : Nat) => D.int (lo + i)
theorem rngD_len (lo : Int) (n : Nat) : (rngD lo n).length = n := by simp [rngD]
theorem wk_rng {H : Hp} {μ : Mu} {lo : Int} {n : Nat} : Wk K H μ (Itr lo n) (rngD lo n) fun _ => True where
  goes := fun i H' μ' st hi g s _ => by rw [rngD_len] at hi; exact hi
  stops := fun H' μ' st g s _ => by rw [rngD_len]; exact Nat.le_refl _
  yields := fun i x H' H'' μ' st d hd g s _ ⟨e, hx⟩ => by
    subst e hx
    unfold rngD at hd
    rw [List.getElem?_map] at hd
    cases q : (List.range n)[i]? with
    | none => rw [q] at hd; cases hd
    | some j =>
      rw [q] at hd
      cases hd
      have : j = i := by
        have := (List.getElem?_eq_some_iff.mp q).2
        simpa using this.symm
      subst this
      exact ⟨.refl _ _, by simp only [Rp]⟩
def isI (d : D) (Q : Int → Prop) : Prop := match d with
  | .int i => Q i
  | _ => False
theorem Rp.int_of {H : Hp} {μ : Mu} {d : D} {v : V} {Q : Int → Prop} (r : Rp K H μ d v) (h : isI d Q) : ∃ i, d = .int i ∧ v = .int i ∧ Q i := by
  cases d <;> simp only [isI] at h
  rename_i b
  simp only [Rp] at r
  exact ⟨b, rfl, r, h⟩
def iRng1' (f : ME) : MI := fun ρ st Q => f ρ st fun d st1 => isI d fun j => (j < 1000000 ∧ -1000000 < j) ∧ Q (rngD 0 j.toNat) (fun _ => True) st1
def iRng2' (f g : ME) : MI := fun ρ st Q => f ρ st fun d st1 => g ρ st1 fun e st2 => isI d fun i => isI e fun j => (-1000000 < i ∧ i < 1000000 ∧ -1000000 < j ∧ j < 1000000) ∧ Q (rngD i (j - i).toNat) (fun _ => True) st2
theorem di_range1 {a : Expr} {f : ME} {p pos : Pos} (hm : X.mg "range" = none) (ha : DE K X a f) (hg : Gl X "range" := by rfl) (hs : starEach [a] X.env = (false, eval a X.env) :: starEach [] X.env := by rfl) : DI K X tg (.Call (.Name "range" p) [a] [] pos) (iRng1' f) := by
  refine PI_imp (pi_range1 hg hm (pa_cons ha pa_nil hs) hs) fun σ H R ⟨μ, ρ, st, Qi, he, hs, hm, k⟩ => ?_
  refine ⟨μ, ρ, st, _, he, hs, hm, fun d st1 v μ1 H1 q1 r1 s1 g1 => ?_⟩
  obtain ⟨j, rfl, rfl, ⟨h1, h2⟩, q⟩ := r1.int_of q1
  exact ⟨j, rfl, by omega, by omega, k _ _ _ _ _ _ q wk_rng s1 g1⟩
theorem di_range2 {a b : Expr} {f g : ME} {p pos : Pos} (hm : X.mg "range" = none) (ha : DE K X a f) (hb : DE K X b g) (hg : Gl X "range" := by rfl) (hs : starEach [a, b] X.env = (false, eval a X.env) :: starEach [b] X.env := by rfl) (hs2 : starEach [b] X.env = (false, eval b X.env) :: starEach [] X.env := by rfl) (h1 : starEach [a, b] X.env = [(false, eval a X.env), (false, eval b X.env)] := by rfl) (h2 : starEach [b] X.env = [(false, eval b X.env)] := by rfl) : DI K X tg (.Call (.Name "range" p) [a, b] [] pos) (iRng2' f g) := by
  refine PI_imp (pi_range2 hg hm (pa_cons ha (pa_cons hb pa_nil hs2) hs) h1 h2) fun σ H R ⟨μ, ρ, st, Qi, he, hs, hm, k⟩ => ?_
  refine ⟨μ, ρ, st, _, he, hs, hm, fun d st1 v μ1 H1 q1 r1 s1 g1 => ⟨μ1, ρ, st1, _, he.go g1, s1, q1, fun e st2 v2 μ2 H2 q2 r2 s2 g2 => ?_⟩⟩
  obtain ⟨i, rfl, rfl, q2⟩ := (r1.go g2).int_of q2
  obtain ⟨j, rfl, rfl, ⟨h1, h2, h3, h4⟩, q⟩ := r2.int_of q2
  exact ⟨i, j, rfl, ⟨by omega, by omega, by omega, by omega⟩, k _ _ _ _ _ _ q wk_rng s2 (g1.trans g2)⟩
end
/-! ### calls of defs by their promises -/
def spD (K : PySem.W.Frag) (n : Nat) (S : MC) : Sp := fun vs H Q _ => vs.length = n ∧ lC K S vs H Q
structure CanD (P : Program) (w : World) (K : PySem.W.Frag) (mg : Str → Option Value) (base : Heap) (k : Nat) (x : Str) (st : Stmt) (ps : List Str) (S : MC) : Prop where
  can : Can P w K mg base k x st ps (spD K ps.length S)
section
variable {X : Cx} {K : PySem.W.Frag} {k : Nat} {x : Str} {st : Stmt} {ps : List Str} {S : MC} {p pos : Pos} {e : Expr} {es : List Expr} {r : MA}
def mFn (n : Nat) (S : MC) (r : MA) : ME := fun ρ st Q => r ρ st fun ds st1 => ds.length = n ∧ S st1 ds Q
theorem de_fn (c : CanD X.prog X.w K X.mg X.base k x st ps S) (hr : Room k X.A) (ha : DA K X (e :: es) r) (hK : X.K = K := by rfl) (hg : Gl X x := by rfl) (hdb : (x == ("__debug__" : Str)) = false := by decide)
    (he : starEach (e :: es) X.env = (false, eval e X.env) :: starEach es X.env := by rfl) (hpl : (backTo pos (starEach es X.env)).any (·.1) = false := by rfl) : DE K X (.Call (.Name x p) (e :: es) [] pos) (mFn ps.length S r) := by
  subst hK
  refine PE_imp (pe_can c.can hr ha hg hdb he hpl) fun σ H Q ⟨μ, ρ, st, Qd, he, hs, hm, k⟩ => ?_
  refine ⟨μ, ρ, st, _, he, hs, hm, fun ds st1 vs μ1 H1 q1 r1 s1 g1 => ?_⟩
  exact ⟨by rw [List.append_nil, ← r1.length]; exact q1.1, μ1, st1, ds, Qd, by rw [List.append_nil]; exact r1, s1, q1.2, k.to g1⟩
/-- keywords alone, told in any order: gD puts the values into the parameters' order -/
structure PKr (K : PySem.W.Frag) (gV : List V → List V → List V) (gD : List D → List D) (n : Nat) : Prop where
  rel : ∀ H μ ds vs, RpL K H μ ds vs → ds.length = n → RpL K H μ (gD ds) (gV [] vs)
abbrev DK' (K : PySem.W.Frag) (X : Cx) (kws : List Keyword) (r : MA) : Prop := PK X kws (lA K r)
theorem PK_imp {kws : List Keyword} {t t' : TA} (h : PK X kws t) (i : ∀ σ H Q, t' σ H Q → t σ H Q) : PK X kws t' := ⟨fun pos pins s σ H Q I q => h.run pos pins s σ H Q I (i σ H Q q)⟩
theorem dk_nil : DK' K X [] mNil := PK_imp pk_nil fun σ H Q ⟨μ, ρ, st, Qd, he, hs, hm, k⟩ => k _ _ _ _ _ hm .nil hs (.refl _ _)
theorem dk_cons {nm : Option Str} {kpos : Pos} {kws : List Keyword} {f : ME} (ha : DE K X e f) (hr : DK' K X kws r) : DK' K X (⟨nm, e, kpos⟩ :: kws) (mCons f r) := PK_imp (pk_cons ha hr) fun σ H Q ⟨μ, ρ, st, Qd, he, hs, hm, k⟩ =>
  ⟨μ, ρ, st, _, he, hs, hm, fun d st1 v μ1 H1 q1 r1 s1 g1 => ⟨μ1, ρ, st1, _, he.go g1, s1, q1, fun ds st2 vs μ2 H2 q2 r2 s2 g2 => k _ _ _ _ _ q2 (.cons (r1.go g2) r2) s2 (g1.trans g2)⟩⟩
def mFnK (n : Nat) (gD : List D → List D) (S : MC) (r : MA) : ME := fun ρ st Q => r ρ st fun ds st1 => ds.length = n ∧ S st1 (gD ds) Q
theorem RpL.reverse {K : PySem.W.Frag} {H : Hp} {μ : Mu} : ∀ {ds : List D} {vs : List V}, RpL K H μ ds vs → RpL K H μ ds.reverse vs.reverse
  | [], _, h => by simp only [RpL] at h; rw [h]; exact .nil
  | d :: ds, _, h => by
    simp only [RpL] at h
    obtain ⟨v, r, rfl, h1, h2⟩ := h
    rw [List.reverse_cons, List.reverse_cons]
    exact (RpL.reverse h2).append (.cons h1 .nil)
theorem de_fnK {kws : List Keyword} {ks : List Str} {g : List Value → List Value → List Value} {gV : List V → List V → List V} {gD : List D → List D} (c : CanD X.prog X.w K X.mg X.base k x st ps S) (hr : Room k X.A)
    (hb : ∀ f fd, Fun X.K x x st f fd → KBn X.K fd ps 0 ks g gV) (hG : PKr K gV gD ks.length) (hlen : ∀ ds : List D, ds.length = ks.length → (gD ds).length = ps.length) (ha : DK' K X kws r) (hK : X.K = K := by rfl) (hg : Gl X x := by rfl)
    (hall : (backToKw pos (keywordEach kws X.env)).all (·.1.isSome) = true := by rfl) (hks : (backToKw pos (keywordEach kws X.env)).filterMap (·.1) = ks := by rfl)
    (hdb : (x == ("__debug__" : Str)) = false := by decide) (hpl : ((backTo pos (starEach [] X.env)).any (·.1) || (backToKw pos (keywordEach kws X.env)).any (·.1.isNone)) = false := by rfl) : DE K X (.Call (.Name x p) [] kws pos) (mFnK ks.length gD S r) := by
  subst hK
  refine PE_imp (pe_canK c.can hr hb ha hg hall hks hdb hpl) fun σ H Q ⟨μ, ρ, st, Qd, he, hs, hm, k⟩ => ?_
  refine ⟨μ, ρ, st, _, he, hs, hm, fun ds st1 vs μ1 H1 q1 r1 s1 g1 => ?_⟩
  refine ⟨rfl, by rw [← r1.length]; exact q1.1, ?_, μ1, st1, gD ds, Qd, hG.rel _ _ _ _ r1 q1.1, s1, q1.2, k.to g1⟩
  have := (hG.rel _ _ _ _ r1 q1.1).length
  rw [← this]
  exact hlen ds q1.1
end
/-! ### defs -/
def startD (N : List Str) (ds : List D) : Env := ds.map some ++ List.replicate (N.length - ds.length) none
theorem RpE.start {K : PySem.W.Frag} {H : Hp} {μ : Mu} (n : Nat) : ∀ {ds : List D} {vs : List V}, RpL K H μ ds vs → RpE K H μ (ds.map some ++ List.replicate n none) (vs.map some ++ List.replicate n none)
  | [], _, h => by
    simp only [RpL] at h
    subst h
    show RpE K H μ (List.replicate n none) (List.replicate n none)
    induction n with
    | zero => exact trivial
    | succ n ih => exact ih
  | d :: ds, _, h => by
    simp only [RpL] at h
    obtain ⟨v, r, rfl, h1, h2⟩ := h
    exact ⟨h1, RpE.start n h2⟩
-- cells told by their places: below n
mutual
def Clo (n : Nat) : D → Prop
  | .lst xs => CloL n xs
  | .frl xs => CloL n xs
  | .tup xs => CloL n xs
  | .dic kvs => CloK n kvs
  | .dit kvs => CloT n kvs
  | .ins _ fs => CloF n fs
  | .cel k => k < n
  | _ => True
def CloL (n : Nat) : List D → Prop
  | [] => True
  | d :: ds => Clo n d ∧ CloL n ds
def CloK (n : Nat) : List (DK × D) → Prop
  | [] => True
  | p :: ds => CloP n p ∧ CloK n ds
def CloP (n : Nat) : DK × D → Prop
  | (_, d) => Clo n d
def CloT (n : Nat) : List (List DK × D) → Prop
  | [] => True
  | p :: ds => CloQ n p ∧ CloT n ds
def CloQ (n : Nat) : List DK × D → Prop
  | (_, d) => Clo n d
def CloF (n : Nat) : List (Str × D) → Prop
  | [] => True
  | p :: ds => CloG n p ∧ CloF n ds
def CloG (n : Nat) : Str × D → Prop
  | (_, d) => Clo n d
end
def CloC (n : Nat) : Cell → Prop
  | .lst xs => CloL n xs
  | .dic kvs => CloK n kvs
  | .dit kvs => CloT n kvs
  | .ins _ fs => CloF n fs
  | .tab _ _ => True
section
variable {K : PySem.W.Frag} {H : Hp} {μ : Mu} {n : Nat}
def Mu.cut (μ : Mu) (n : Nat) : Mu := ⟨μ.c.take n, μ.h, μ.t⟩
theorem Mu.off.cut {a : Addr} (h : μ.off a) : (μ.cut n).off a := ⟨fun z => h.1 (List.mem_of_mem_take z), h.2⟩
theorem LstAt.cut {a : Addr} {vs : List V} (h : LstAt K H μ a vs) : LstAt K H (μ.cut n) a vs := by
  rcases h with ⟨h, q⟩ | h
  · exact .inl ⟨h.cut, q⟩
  · exact .inr h
theorem TupAt.cut {a : Addr} {vs : List V} (h : TupAt K H μ a vs) : TupAt K H (μ.cut n) a vs := by
  rcases h with ⟨h, q⟩ | h
  · exact .inl ⟨h.cut, q⟩
  · exact .inr h
mutual
theorem Rp.cut : ∀ {d : D} {v : V}, Rp K H μ d v → Clo n d → Rp K H (μ.cut n) d v
  | .non, v, h, _ => by simp only [Rp] at h ⊢; exact h
  | .bl b, v, h, _ => by simp only [Rp] at h ⊢; exact h
  | .int i, v, h, _ => by simp only [Rp] at h ⊢; exact h
  | .str l, v, h, _ => by simp only [Rp] at h ⊢; exact h
  | .raw l, v, h, _ => by simp only [Rp] at h ⊢; exact h
  | .lst xs, v, h, c => by
    simp only [Rp] at h ⊢; simp only [Clo] at c
    obtain ⟨a, vs, rfl, n, h1, h2⟩ := h
    exact ⟨a, vs, rfl, n.cut, h1, RpL.cut h2 c⟩
  | .frl xs, v, h, c => by
    simp only [Rp] at h ⊢; simp only [Clo] at c
    obtain ⟨a, vs, rfl, h1, h2⟩ := h
    exact ⟨a, vs, rfl, h1.cut, RpL.cut h2 c⟩
  | .tup xs, v, h, c => by
    simp only [Rp] at h ⊢; simp only [Clo] at c
    obtain ⟨a, vs, rfl, h1, h2⟩ := h
    exact ⟨a, vs, rfl, h1.cut, RpL.cut h2 c⟩
  | .dic kvs, v, h, c => by
    simp only [Rp] at h ⊢; simp only [Clo] at c
    obtain ⟨a, vs, rfl, n, h1, h2⟩ := h
    exact ⟨a, vs, rfl, n.cut, h1, RpK.cut h2 c⟩
  | .dit kvs, v, h, c => by
    simp only [Rp] at h ⊢; simp only [Clo] at c
    obtain ⟨a, vs, rfl, n, h1, h2⟩ := h
    exact ⟨a, vs, rfl, n.cut, h1, RpT.cut h2 c⟩
  | .ins C fs, v, h, c => by
    simp only [Rp] at h ⊢; simp only [Clo] at c
    obtain ⟨a, dx, vs, rfl, n, n2, h1, hd, h2⟩ := h
    exact ⟨a, dx, vs, rfl, n.cut, n2.cut, h1, hd, RpF.cut h2 c⟩
  | .cel k, v, h, c => by
    simp only [Rp] at h ⊢; simp only [Clo] at c
    obtain ⟨a, rfl, h1⟩ := h
    exact ⟨a, rfl, by show (μ.c.take n)[k]? = _; rw [List.getElem?_take, if_pos c]; exact h1⟩
theorem RpL.cut : ∀ {ds : List D} {vs : List V}, RpL K H μ ds vs → CloL n ds → RpL K H (μ.cut n) ds vs
  | [], _, h, _ => by simp only [RpL] at h ⊢; exact h
  | d :: ds, _, h, c => by
    simp only [RpL] at h ⊢; simp only [CloL] at c
    obtain ⟨v, r, e, h1, h2⟩ := h
    exact ⟨v, r, e, Rp.cut h1 c.1, RpL.cut h2 c.2⟩
theorem RpK.cut : ∀ {ds : List (DK × D)} {vs : List (Key × V)}, RpK K H μ ds vs → CloK n ds → RpK K H (μ.cut n) ds vs
  | [], _, h, _ => by simp only [RpK] at h ⊢; exact h
  | p :: ds, _, h, c => by
    simp only [RpK] at h ⊢; simp only [CloK] at c
    obtain ⟨v, r, e, h1, h2⟩ := h
    exact ⟨v, r, e, RpP.cut h1 c.1, RpK.cut h2 c.2⟩
theorem RpP.cut : ∀ {p : DK × D} {v : V}, RpP K H μ p v → CloP n p → RpP K H (μ.cut n) p v
  | (_, d), v, h, c => by simp only [RpP] at h ⊢; simp only [CloP] at c; exact Rp.cut h c
theorem RpT.cut : ∀ {ds : List (List DK × D)} {vs : List (List Key × V)}, RpT K H μ ds vs → CloT n ds → RpT K H (μ.cut n) ds vs
  | [], _, h, _ => by simp only [RpT] at h ⊢; exact h
  | p :: ds, _, h, c => by
    simp only [RpT] at h ⊢; simp only [CloT] at c
    obtain ⟨v, r, e, h1, h2⟩ := h
    exact ⟨v, r, e, RpQ.cut h1 c.1, RpT.cut h2 c.2⟩
theorem RpQ.cut : ∀ {p : List DK × D} {v : V}, RpQ K H μ p v → CloQ n p → RpQ K H (μ.cut n) p v
  | (_, d), v, h, c => by simp only [RpQ] at h ⊢; simp only [CloQ] at c; exact Rp.cut h c
theorem RpF.cut : ∀ {ds : List (Str × D)} {vs : List (Str × V)}, RpF K H μ ds vs → CloF n ds → RpF K H (μ.cut n) ds vs
  | [], _, h, _ => by simp only [RpF] at h ⊢; exact h
  | p :: ds, _, h, c => by
    simp only [RpF] at h ⊢; simp only [CloF] at c
    obtain ⟨v, r, e, h1, h2⟩ := h
    exact ⟨v, r, e, RpG.cut h1 c.1, RpF.cut h2 c.2⟩
theorem RpG.cut : ∀ {p : Str × D} {v : V}, RpG K H μ p v → CloG n p → RpG K H (μ.cut n) p v
  | (_, d), v, h, c => by simp only [RpG] at h ⊢; simp only [CloG] at c; exact Rp.cut h c
end
mutual
theorem Rp.clo : ∀ {d : D} {v : V}, Rp K H μ d v → Clo μ.c.length d
  | .non, v, h => by simp only [Clo]
  | .bl b, v, h => by simp only [Clo]
  | .int i, v, h => by simp only [Clo]
  | .str l, v, h => by simp only [Clo]
  | .raw l, v, h => by simp only [Clo]
  | .lst xs, v, h => by
    simp only [Rp] at h; simp only [Clo]
    obtain ⟨a, vs, rfl, n, h1, h2⟩ := h
    exact RpL.clo h2
  | .frl xs, v, h => by
    simp only [Rp] at h; simp only [Clo]
    obtain ⟨a, vs, rfl, h1, h2⟩ := h
    exact RpL.clo h2
  | .tup xs, v, h => by
    simp only [Rp] at h; simp only [Clo]
    obtain ⟨a, vs, rfl, h1, h2⟩ := h
    exact RpL.clo h2
  | .dic kvs, v, h => by
    simp only [Rp] at h; simp only [Clo]
    obtain ⟨a, vs, rfl, n, h1, h2⟩ := h
    exact RpK.clo h2
  | .dit kvs, v, h => by
    simp only [Rp] at h; simp only [Clo]
    obtain ⟨a, vs, rfl, n, h1, h2⟩ := h
    exact RpT.clo h2
  | .ins C fs, v, h => by
    simp only [Rp] at h; simp only [Clo]
    obtain ⟨a, dx, vs, rfl, n, n2, h1, hd, h2⟩ := h
    exact RpF.clo h2
  | .cel k, v, h => by
    simp only [Rp] at h; simp only [Clo]
    obtain ⟨a, rfl, h1⟩ := h
    exact (List.getElem?_eq_some_iff.mp h1).1
theorem RpL.clo : ∀ {ds : List D} {vs : List V}, RpL K H μ ds vs → CloL μ.c.length ds
  | [], _, h => by simp only [CloL]
  | d :: ds, _, h => by
    simp only [RpL] at h; simp only [CloL]
    obtain ⟨v, r, e, h1, h2⟩ := h
    exact ⟨Rp.clo h1, RpL.clo h2⟩
theorem RpK.clo : ∀ {ds : List (DK × D)} {vs : List (Key × V)}, RpK K H μ ds vs → CloK μ.c.length ds
  | [], _, h => by simp only [CloK]
  | p :: ds, _, h => by
    simp only [RpK] at h; simp only [CloK]
    obtain ⟨v, r, e, h1, h2⟩ := h
    exact ⟨RpP.clo h1, RpK.clo h2⟩
theorem RpP.clo : ∀ {p : DK × D} {v : V}, RpP K H μ p v → CloP μ.c.length p
  | (_, d), v, h => by simp only [RpP] at h; simp only [CloP]; exact Rp.clo h
theorem RpT.clo : ∀ {ds : List (List DK × D)} {vs : List (List Key × V)}, RpT K H μ ds vs → CloT μ.c.length ds
  | [], _, h => by simp only [CloT]
  | p :: ds, _, h => by
    simp only [RpT] at h; simp only [CloT]
    obtain ⟨v, r, e, h1, h2⟩ := h
    exact ⟨RpQ.clo h1, RpT.clo h2⟩
theorem RpQ.clo : ∀ {p : List DK × D} {v : V}, RpQ K H μ p v → CloQ μ.c.length p
  | (_, d), v, h => by simp only [RpQ] at h; simp only [CloQ]; exact Rp.clo h
theorem RpF.clo : ∀ {ds : List (Str × D)} {vs : List (Str × V)}, RpF K H μ ds vs → CloF μ.c.length ds
  | [], _, h => by simp only [CloF]
  | p :: ds, _, h => by
    simp only [RpF] at h; simp only [CloF]
    obtain ⟨v, r, e, h1, h2⟩ := h
    exact ⟨RpG.clo h1, RpF.clo h2⟩
theorem RpG.clo : ∀ {p : Str × D} {v : V}, RpG K H μ p v → CloG μ.c.length p
  | (_, d), v, h => by simp only [RpG] at h; simp only [CloG]; exact Rp.clo h
end
theorem RpC.clo {a : Addr} : ∀ {c : Cell}, RpC K H μ a c → CloC μ.c.length c
  | .lst _, ⟨_, _, r⟩ => r.clo
  | .dic _, ⟨_, _, r⟩ => r.clo
  | .dit _, ⟨_, _, r⟩ => r.clo
  | .ins _ _, ⟨_, _, _, _, _, r⟩ => r.clo
  | .tab _ _, _ => trivial
theorem RpC.cut {a : Addr} : ∀ {c : Cell}, RpC K H μ a c → CloC n c → RpC K H (μ.cut n) a c
  | .lst _, ⟨vs, h, r⟩, c => ⟨vs, h, r.cut c⟩
  | .dic _, ⟨vs, h, r⟩, c => ⟨vs, h, r.cut c⟩
  | .dit _, ⟨vs, h, r⟩, c => ⟨vs, h, r.cut c⟩
  | .ins _ _, ⟨dx, vs, h, hd, nn, r⟩, c => ⟨dx, vs, h, hd, nn.cut, r.cut c⟩
  | .tab _ _, ⟨e, ps, h1, h2, h3⟩, _ => ⟨e, ps, h1, h2, fun pos cv hc => let ⟨c, e1, nn, e2⟩ := h3 pos cv hc; ⟨c, e1, nn.cut, e2⟩⟩
/-- a cell that is left becomes a thing that stands still -/
def fz1 (n : Nat) (st : Store) : D → D
  | .cel k => if k < n then .cel k else match st[k]? with
    | some (.lst xs) => .lst xs
    | some (.dic kvs) => .dic kvs
    | some (.dit kvs) => .dit kvs
    | some (.ins C fs) => .ins C fs
    | _ => .cel k
  | d => d
def fz (n : Nat) (st : Store) : D → D
  | .tup ds => .tup (ds.map (fz1 n st))
  | d => fz1 n st d
theorem Rp.fz1 {st : Store} (s : RpS K H μ st) : ∀ {d : D} {v : V}, Rp K H μ d v → Clo n (fz1 n st d) → Rp K H (μ.cut n) (fz1 n st d) v
  | .cel k, v, h, c => by
    simp only [DL.fz1] at c ⊢
    by_cases hk : k < n
    · rw [if_pos hk] at c ⊢; exact h.cut c
    · rw [if_neg hk] at c ⊢
      simp only [Rp] at h
      obtain ⟨a, rfl, h1⟩ := h
      have off : (μ.cut n).off a := by
        refine ⟨fun z => ?_, fun z => (s.hid a z).1 (List.mem_of_getElem? h1)⟩
        obtain ⟨j, hj⟩ := List.mem_iff_getElem?.mp z
        have hj : (μ.c.take n)[j]? = some a := hj
        rw [List.getElem?_take] at hj
        split at hj
        · exact hk (by rw [← nodup_get s.nd hj h1]; assumption)
        · cases hj
      cases q : st[k]? with
      | none =>
        rw [q] at c
        simp only [Clo] at c
        exact absurd c hk
      | some cc =>
        have rc := s.at_ k a cc h1 q
        rw [q] at c
        cases cc with
        | lst xs =>
          obtain ⟨vs, h2, r⟩ := rc
          simp only [Clo] at c
          simp only [Rp]
          exact ⟨a, vs, rfl, off, h2, r.cut c⟩
        | dic xs =>
          obtain ⟨vs, h2, r⟩ := rc
          simp only [Clo] at c
          simp only [Rp]
          exact ⟨a, vs, rfl, off, .inl h2, r.cut c⟩
        | dit xs =>
          obtain ⟨vs, h2, r⟩ := rc
          simp only [Clo] at c
          simp only [Rp]
          exact ⟨a, vs, rfl, off, .inl h2, r.cut c⟩
        | ins C fs =>
          obtain ⟨dx, vs, h2, hd, nn, r⟩ := rc
          simp only [Clo] at c
          simp only [Rp]
          exact ⟨a, dx, vs, rfl, off, nn.cut, h2, hd, r.cut c⟩
        | tab P q2 =>
          simp only [Clo] at c
          exact absurd c hk
  | .non, v, h, c => h.cut c
  | .bl b, v, h, c => h.cut c
  | .int i, v, h, c => h.cut c
  | .str l, v, h, c => h.cut c
  | .raw l, v, h, c => h.cut c
  | .lst xs, v, h, c => h.cut c
  | .frl xs, v, h, c => h.cut c
  | .tup xs, v, h, c => h.cut c
  | .dic kvs, v, h, c => h.cut c
  | .dit kvs, v, h, c => h.cut c
  | .ins C fs, v, h, c => h.cut c
theorem RpL.fz1 {st : Store} (s : RpS K H μ st) : ∀ {ds : List D} {vs : List V}, RpL K H μ ds vs → CloL n (ds.map (fz1 n st)) → RpL K H (μ.cut n) (ds.map (fz1 n st)) vs
  | [], _, h, _ => by simp only [RpL] at h; rw [h]; exact .nil
  | d :: ds, _, h, c => by
    simp only [RpL] at h
    obtain ⟨v, r, rfl, h1, h2⟩ := h
    simp only [List.map_cons, CloL] at c
    exact .cons (Rp.fz1 s h1 c.1) (RpL.fz1 s h2 c.2)
theorem Rp.fz {st : Store} (s : RpS K H μ st) : ∀ {d : D} {v : V}, Rp K H μ d v → Clo n (fz n st d) → Rp K H (μ.cut n) (fz n st d) v
  | .tup xs, v, h, c => by
    simp only [DL.fz] at c ⊢
    simp only [Rp] at h ⊢
    simp only [Clo] at c
    obtain ⟨a, vs, rfl, h1, h2⟩ := h
    exact ⟨a, vs, rfl, h1.cut, RpL.fz1 s h2 c⟩
  | .cel k, v, h, c => Rp.fz1 s h c
  | .non, v, h, c => h.cut c
  | .bl b, v, h, c => h.cut c
  | .int i, v, h, c => h.cut c
  | .str l, v, h, c => h.cut c
  | .raw l, v, h, c => h.cut c
  | .lst xs, v, h, c => h.cut c
  | .frl xs, v, h, c => h.cut c
  | .dic kvs, v, h, c => h.cut c
  | .dit kvs, v, h, c => h.cut c
  | .ins C fs, v, h, c => h.cut c
/-- the end of a def that leaves its own cells -/
def exitF (st0 : Store) (Qd : QD) : QD := fun d st => Clo st0.length (fz st0.length st d) ∧ (∀ (i : Nat) c, i < st0.length → st[i]? = some c → st0[i]? = some c ∨ CloC st0.length c) ∧ Qd (fz st0.length st d) (st.take st0.length)
theorem exitF_cont {H0 : Hp} {μ0 : Mu} {st0 : Store} {Qd : QD} {Q : VK} (s0 : RpS K H0 μ0 st0) (k : Cont K H0 μ0 Qd Q) : Cont K H0 μ0 (exitF st0 Qd) Q := by
  intro d st v μ' H' q r s g
  obtain ⟨c1, c2, q⟩ := q
  have ec : (μ'.cut st0.length).c = μ0.c := by
    show μ'.c.take _ = _
    rw [← s0.len]
    exact (List.prefix_iff_eq_take.mp g.pre).symm
  have eμ : μ'.cut st0.length = μ0 := by
    have e2 : (μ'.cut st0.length).h = μ0.h := g.hid
    have e3 : (μ'.cut st0.length).t = μ0.t := g.tab
    cases h : μ'.cut st0.length
    rw [h] at ec e2 e3
    cases μ0
    simp at ec e2 e3
    rw [ec, e2, e3]
  have g0 : Go H0 μ0 H' μ0 := ⟨List.prefix_refl _, rfl, rfl, fun a o h n t => ⟨n, (g.keep a o h n t).2⟩⟩
  refine k _ _ _ μ0 H' q (by rw [← eμ]; exact r.fz s c1) ?_ g0
  refine ⟨?_, s0.nd, fun n a c h1 h2 => ?_, fun a ha => ?_, by rw [← g.tab]; exact s.tab⟩
  · rw [List.length_take, ← s.len, s0.len]
    have := g.pre.length_le
    rw [s0.len] at this
    omega
  · have hn : n < st0.length := by rw [← s0.len]; exact (List.getElem?_eq_some_iff.mp h1).1
    rw [List.getElem?_take, if_pos hn] at h2
    have h1' : μ'.c[n]? = some a := prefix_get g.pre h1
    have rc := s.at_ n a c h1' h2
    rw [← eμ]
    refine rc.cut ?_
    rcases c2 n c hn h2 with e | e
    · have := (s0.at_ n a c h1 e).clo
      rw [s0.len] at this
      exact this
    · exact e
  · have := s.hid a (by rw [g.hid]; exact ha)
    exact ⟨fun z => this.1 (g.pre.subset z), this.2⟩
end
section
variable {P : Program} {w : World} {K : PySem.W.Frag} {mg : Str → Option Value} {base : Heap} {x qual : Str} {st : Stmt} {f : Addr} {fd : FuncData} {N ps : List Str} {k : Nat} {S : MC} {m : MS}
theorem start_eq {H : Hp} {μ : Mu} {ds : List D} {vs : List V} (r : RpL K H μ ds vs) : RpE K H μ (startD N ds) (L2.start N vs) := by
  unfold startD L2.start
  rw [r.length]
  exact RpE.start _ r
/-- THE RULE for a def: its body's meaning; what it made and left stands still from then on -/
theorem fnF (F : Fun K x qual st f fd) (Sc : FnScope N ps (defScope st))
    (hb : ∀ (cdv : Value) (A : Around) (outer : List PySem.Env) (s : Shared) (H : Hp) (E : XK), Room k (A.deeper (envOfC qual (defScope st) s.heap.objs.size f cdv)) → DSs K (cxOf CX0 P w K mg base N qual (defScope st) f cdv A outer s H E).nox (defBody st) m)
    (hm : ∀ st0 ds Qd, ds.length = ps.length → S st0 ds Qd → m (startD N ds) st0 { nx := fun _ st1 => exitF st0 Qd .non st1, rt := exitF st0 Qd }) : FnOk P w K mg base CX0 (k + 1) f fd ps (spD K ps.length S) := by
  refine F.ok Sc (fun vs H Q E h => h.1) fun cdv A outer s H vs Q E hr h => ⟨_, hb cdv A outer s H E hr, ?_⟩
  obtain ⟨hl, μ, st0, ds, Qd, r, s0, q, kk⟩ := h
  have kx := exitF_cont s0 kk
  refine ⟨μ, startD N ds, st0, _, start_eq r, s0, hm st0 ds Qd (by rw [r.length]; exact hl) q, ⟨fun ρ st1 σ μ' H' q1 e1 s1 g1 => ?_, kx, fun ρ st1 σ μ' H' q1 e1 s1 g1 => q1.elim, fun ρ st1 σ μ' H' q1 e1 s1 g1 => q1.elim⟩⟩
  exact (kx.to g1).at q1 (.non _ _) s1
/-- .. and one that hands out its cells -/
theorem fnK (F : Fun K x qual st f fd) (Sc : FnScope N ps (defScope st))
    (hb : ∀ (cdv : Value) (A : Around) (outer : List PySem.Env) (s : Shared) (H : Hp) (E : XK), Room k (A.deeper (envOfC qual (defScope st) s.heap.objs.size f cdv)) → DSs K (cxOf CX0 P w K mg base N qual (defScope st) f cdv A outer s H E).nox (defBody st) m)
    (hm : ∀ st0 ds Qd, ds.length = ps.length → S st0 ds Qd → m (startD N ds) st0 { nx := fun _ st1 => Qd .non st1, rt := Qd }) : FnOk P w K mg base CX0 (k + 1) f fd ps (spD K ps.length S) := by
  refine F.ok Sc (fun vs H Q E h => h.1) fun cdv A outer s H vs Q E hr h => ⟨_, hb cdv A outer s H E hr, ?_⟩
  obtain ⟨hl, μ, st0, ds, Qd, r, s0, q, kk⟩ := h
  refine ⟨μ, startD N ds, st0, _, start_eq r, s0, hm st0 ds Qd (by rw [r.length]; exact hl) q, ⟨fun ρ st1 σ μ' H' q1 e1 s1 g1 => ?_, kk, fun ρ st1 σ μ' H' q1 e1 s1 g1 => q1.elim, fun ρ st1 σ μ' H' q1 e1 s1 g1 => q1.elim⟩⟩
  exact (kk.to g1).at q1 (.non _ _) s1
end
end DL
set_option Elab.async false
set_option linter.all false
set_option maxRecDepth 100000
set_option maxHeartbeats 2000000
namespace DL
open PySem PySem.Spec PyProof.Rows L2 Nf
/-- as dr, but a list that is read alone stays what it is -/
def drx (st : Store) : D → D
  | .cel n => match st[n]? with
    | some (.lst xs) => .lst xs
    | some (.dic kvs) => .dic kvs
    | some (.dit kvs) => .dit kvs
    | some (.ins C fs) => .ins C fs
    | _ => .cel n
  | d => d
section
variable {K : PySem.W.Frag} {H : Hp} {μ : Mu} {st : Store}
theorem Rp.lstX (s : RpS K H μ st) : ∀ {d : D} {v : V} {xs : List D}, Rp K H μ d v → drx st d = .lst xs → ∃ a vs, v = .ref a ∧ H a = some (.lst vs) ∧ RpL K H μ xs vs
  | .lst _, v, xs, h, e => by
    cases e
    simp only [Rp] at h
    obtain ⟨a, vs, rfl, n, h1, h2⟩ := h
    exact ⟨a, vs, rfl, h1, h2⟩
  | .cel n, v, xs, h, e => by
    simp only [Rp] at h
    obtain ⟨a, rfl, h1⟩ := h
    simp only [drx] at e
    split at e <;> rename_i q <;> cases e
    obtain ⟨vs, g1, g2⟩ := s.at_ n a _ h1 q
    exact ⟨a, vs, rfl, g1, g2⟩
  | .frl _, _, _, _, e => by cases e
  | .non, _, _, _, e => by cases e
  | .bl _, _, _, _, e => by cases e
  | .int _, _, _, _, e => by cases e
  | .str _, _, _, _, e => by cases e
  | .tup _, _, _, _, e => by cases e
  | .dic _, _, _, _, e => by cases e
  | .dit _, _, _, _, e => by cases e
  | .ins _ _, _, _, _, e => by cases e
  | .raw _, _, _, _, e => by cases e
theorem str_sz (l : List Nat) : (tx l).length = l.length := tx_length l
theorem RpL.flat {xs : List (List V)} {ds : List D} {vs : List V} (h : RpL K H μ ds vs) : ∀ n : Nat, RpL K H μ (List.replicate n ds).flatten (List.replicate n vs).flatten
  | 0 => .nil
  | n + 1 => by
    rw [List.replicate_succ, List.replicate_succ, List.flatten_cons, List.flatten_cons]
    exact h.append (RpL.flat (xs := xs) h n)
end
/-! ### + - * // % -/
def oAdd : MO := fun st a b Q => match a, b with
  | .int i, .int j => Q (.int (i + j)) st
  | .str l, .str m => l.length + m.length ≤ 1000000 ∧ Q (.str (l ++ m)) st
  | .tup xs, .tup ys => xs.length + ys.length ≤ 1000000 ∧ Q (.tup (xs ++ ys)) st
  | a, b => match drx st a, drx st b with
    | .lst xs, .lst ys => xs.length + ys.length ≤ 1000000 ∧ Q (.lst (xs ++ ys)) st
    | _, _ => False
section
variable {K : PySem.W.Frag} {X : Cx}
theorem do_add (hK : X.K = K := by rfl) : OpR X (binaryOp .Add) (lO K oAdd) := by
  subst hK
  refine OpR_imp (OpR.or op_add (OpR.or op_add_str (OpR.or op_catA op_cat))) fun x y H Q hh => ?_
  obtain ⟨μ, st, a, b, Qd, ra, rb, s, hm, k⟩ := hh
  unfold oAdd at hm
  split at hm
  · simp only [Rp] at ra rb
    exact .inl ⟨_, _, ra, rb, k.at hm (.int _ _ _) s⟩
  · simp only [Rp] at ra rb
    refine .inr (.inl ⟨_, _, ra, rb, by rw [tx_length, tx_length]; exact sz5 hm.1, ?_⟩)
    rw [tx_append]
    exact k.at hm.2 (.str _ _ _) s
  · rename_i xs ys
    obtain ⟨p, vs, rfl, h1, h2⟩ := ra.tupAt s rfl
    obtain ⟨q, ws, rfl, h3, h4⟩ := rb.tupAt s rfl
    refine .inr (.inr (.inl ⟨p, q, vs, ws, rfl, rfl, h1, h3, by rw [← h2.length, ← h4.length]; exact sz5 hm.1, fun e => ?_, fun e e2 => ?_, fun e e2 t ht => k.tup hm.2 (h2.append h4) s ht⟩))
    · subst e
      have : xs = [] := List.eq_nil_of_length_eq_zero (by rw [h2.length]; rfl)
      subst this
      exact k.at hm.2 rb s
    · subst e2
      have : ys = [] := List.eq_nil_of_length_eq_zero (by rw [h4.length]; rfl)
      subst this
      refine k.at hm.2 ?_ s
      rw [List.append_nil]; exact ra
  · split at hm
    · rename_i xs ys e1 e2
      obtain ⟨p, vs, rfl, h1, h2⟩ := ra.lstX s e1
      obtain ⟨q, ws, rfl, h3, h4⟩ := rb.lstX s e2
      exact .inr (.inr (.inr ⟨p, q, vs, ws, rfl, rfl, h1, h3, by rw [← h2.length, ← h4.length]; exact sz5 hm.1, fun t ht => k.lst hm.2 (h2.append h4) s ht⟩))
    · exact hm.elim
def oSub : MO := fun st a b Q => match a, b with
  | .int i, .int j => Q (.int (i - j)) st
  | _, _ => False
theorem do_sub : OpR X (binaryOp .Sub) (lO K oSub) := by
  refine OpR_imp op_sub fun x y H Q ⟨μ, st, a, b, Qd, ra, rb, s, hm, k⟩ => ?_
  unfold oSub at hm
  split at hm
  · simp only [Rp] at ra rb
    exact ⟨_, _, ra, rb, k.at hm (.int _ _ _) s⟩
  · exact hm.elim
/-- products: of ints, of a list and an int -/
def oMul : MO := fun st a b Q => match a, b with
  | .int i, .int j => (CMul i j ∨ CMulW i j) ∧ Q (.int (i * j)) st
  | .tup xs, .int k => (xs ≠ [] ∧ 2 ≤ k ∧ k ≤ 1000 ∧ xs.length ≤ 1000) ∧ Q (.tup (List.replicate k.toNat xs).flatten) st
  | a, .int k => match drx st a with
    | .lst xs => (-1000000 ≤ k ∧ k ≤ 1000000 ∧ xs.length * k.toNat ≤ 1000000) ∧ Q (.lst (List.replicate k.toNat xs).flatten) st
    | _ => False
  | _, _ => False
theorem do_mul (hK : X.K = K := by rfl) : OpR X (binaryOp .Mult) (lO K oMul) := by
  subst hK
  refine OpR_imp (OpR.or (OpR.or op_mul op_mulW) (OpR.or op_rep op_repT)) fun x y H Q ⟨μ, st, a, b, Qd, ra, rb, s, hm, k⟩ => ?_
  unfold oMul at hm
  split at hm
  · simp only [Rp] at ra rb
    rcases hm.1 with h1 | h1
    · exact .inl (.inl ⟨_, _, ra, rb, h1, k.at hm.2 (.int _ _ _) s⟩)
    · exact .inl (.inr ⟨_, _, ra, rb, h1, k.at hm.2 (.int _ _ _) s⟩)
  · rename_i xs n
    obtain ⟨p, vs, rfl, h1, h2⟩ := ra.tupAt s rfl
    simp only [Rp] at rb
    subst rb
    refine .inr (.inr ⟨p, n, vs, rfl, rfl, h1, fun e => ?_, hm.1.2.1, hm.1.2.2.1, by rw [← h2.length]; exact hm.1.2.2.2, fun t ht => k.tup hm.2 (RpL.flat (xs := []) h2 _) s ht⟩)
    subst e
    exact hm.1.1 (List.eq_nil_of_length_eq_zero (by rw [h2.length]; rfl))
  · split at hm
    · rename_i e
      obtain ⟨p, vs, rfl, h1, h2⟩ := ra.lstX s e
      simp only [Rp] at rb
      subst rb
      exact .inr (.inl ⟨p, _, vs, rfl, rfl, h1, by omega, by omega, by rw [← h2.length]; exact sz5 hm.1.2.2, fun t ht => k.lst hm.2 (RpL.flat (xs := []) h2 _) s ht⟩)
    · exact hm.elim
  · exact hm.elim
def oDiv : MO := fun st a b Q => match a, b with
  | .int i, .int j => CDivW i j ∧ Q (.int (i / j)) st
  | _, _ => False
theorem do_div : OpR X (binaryOp .FloorDiv) (lO K oDiv) := by
  refine OpR_imp op_fdivW fun x y H Q ⟨μ, st, a, b, Qd, ra, rb, s, hm, k⟩ => ?_
  unfold oDiv at hm
  split at hm
  · simp only [Rp] at ra rb
    exact ⟨_, _, ra, rb, hm.1, k.at hm.2 (.int _ _ _) s⟩
  · exact hm.elim
def oMod : MO := fun st a b Q => match a, b with
  | .int i, .int j => 0 < j ∧ Q (.int (i % j)) st
  | _, _ => False
theorem do_mod : OpR X (binaryOp .Mod) (lO K oMod) := by
  refine OpR_imp op_mod fun x y H Q ⟨μ, st, a, b, Qd, ra, rb, s, hm, k⟩ => ?_
  unfold oMod at hm
  split at hm
  · simp only [Rp] at ra rb
    exact ⟨_, _, ra, rb, hm.1, k.at hm.2 (.int _ _ _) s⟩
  · exact hm.elim
def oPow : MO := fun st a b Q => match a, b with
  | .int i, .int j => CPow i j ∧ Q (.int (i ^ j.toNat)) st
  | _, _ => False
theorem do_pow : OpR X (binaryOp .Pow) (lO K oPow) := by
  refine OpR_imp op_pow fun x y H Q ⟨μ, st, a, b, Qd, ra, rb, s, hm, k⟩ => ?_
  unfold oPow at hm
  split at hm
  · simp only [Rp] at ra rb
    exact ⟨_, _, ra, rb, hm.1, k.at hm.2 (.int _ _ _) s⟩
  · exact hm.elim
def oNeg : MU := fun st a Q => match a with
  | .int i => Q (.int (-i)) st
  | _ => False
theorem do_neg : UnR X (unaryOp .USub) (lU K oNeg) := by
  refine UnR_imp un_neg fun x H Q ⟨μ, st, a, Qd, ra, s, hm, k⟩ => ?_
  unfold oNeg at hm
  split at hm
  · simp only [Rp] at ra
    exact ⟨_, ra, k.at hm (.int _ _ _) s⟩
  · exact hm.elim
/-! ### data that can be compared as a whole -/
mutual
def py : D → PyData
  | .non => .none
  | .bl b => .bool b
  | .int i => .int i
  | .str l => .str (tx l)
  | .lst xs => .list (pyL xs)
  | .frl xs => .list (pyL xs)
  | .tup xs => .tuple (pyL xs)
  | _ => .none
def pyL : List D → List PyData
  | [] => []
  | d :: ds => py d :: pyL ds
end
-- none, bools, ints, texts, lists, tuples of such
mutual
def Dat : D → Bool
  | .non => true
  | .bl _ => true
  | .int _ => true
  | .str _ => true
  | .lst xs => DatL xs
  | .frl xs => DatL xs
  | .tup xs => DatL xs
  | _ => false
def DatL : List D → Bool
  | [] => true
  | d :: ds => Dat d && DatL ds
end
section
variable {H : Hp} {μ : Mu}
mutual
theorem Rp.dp : ∀ {d : D} {v : V}, Rp K H μ d v → Dat d = true → Dp K H v (py d)
  | .non, v, h, _ => by simp only [Rp] at h; subst h; exact .non
  | .bl b, v, h, _ => by simp only [Rp] at h; subst h; exact .bl b
  | .int i, v, h, _ => by simp only [Rp] at h; subst h; exact .int i
  | .str l, v, h, _ => by simp only [Rp] at h; subst h; exact .str _
  | .lst xs, v, h, e => by
    simp only [Rp] at h
    obtain ⟨a, vs, rfl, n, h1, h2⟩ := h
    exact .lst (SqL.of h1) (RpL.dp h2 (by simpa only [Dat] using e))
  | .frl xs, v, h, e => by
    simp only [Rp] at h
    obtain ⟨a, vs, rfl, h1, h2⟩ := h
    exact .lst h1.sq (RpL.dp h2 (by simpa only [Dat] using e))
  | .tup xs, v, h, e => by
    simp only [Rp] at h
    obtain ⟨a, vs, rfl, h1, h2⟩ := h
    exact .tup h1.sq (RpL.dp h2 (by simpa only [Dat] using e))
  | .dic _, _, _, e => by simp [Dat] at e
  | .dit _, _, _, e => by simp [Dat] at e
  | .ins _ _, _, _, e => by simp [Dat] at e
  | .cel _, _, _, e => by simp [Dat] at e
  | .raw _, _, _, e => by simp [Dat] at e
theorem RpL.dp : ∀ {ds : List D} {vs : List V}, RpL K H μ ds vs → DatL ds = true → DpAll K H vs (pyL ds)
  | [], _, h, _ => by simp only [RpL] at h; subst h; exact .nil
  | d :: ds, _, h, e => by
    simp only [RpL] at h
    obtain ⟨v, r, rfl, h1, h2⟩ := h
    rw [DatL, Bool.and_eq_true] at e
    exact .cons (Rp.dp h1 e.1) (RpL.dp h2 e.2)
end
theorem Rp.drAt {st : Store} (s : RpS K H μ st) {d : D} {v : V} (r : Rp K H μ d v) (h : Dat (dr st d) = true) : Dp K H v (py (dr st d)) := by
  cases d with
  | cel n =>
    simp only [Rp] at r
    obtain ⟨a, rfl, h1⟩ := r
    simp only [dr] at h ⊢
    split at h <;> rename_i q
    · obtain ⟨vs, g1, g2⟩ := s.at_ n a _ h1 q
      exact .lst (SqL.of g1) (g2.dp (by simpa only [Dat] using h))
    · simp [Dat] at h
    · simp [Dat] at h
    · simp [Dat] at h
    · simp [Dat] at h
  | frl xs =>
    have := r.dp (by simpa only [Dat, dr] using h)
    simpa only [py, dr] using this
  | _ => exact r.dp h
end
/-! ### == and != -/
/-- == of data: b says which -/
def eqS (a b : D) (Q : Bool → Prop) (P : Prop) : Prop := match a, b with
  | .int i, .int j => Q (decide (i = j))
  | .str l, .str m => Q (decide (l = m))
  | .bl i, .bl j => Q (decide (i = j))
  | .non, .non => Q true
  | .non, .int _ => Q false
  | .non, .str _ => Q false
  | .int _, .non => Q false
  | .str _, .non => Q false
  | .int _, .str _ => Q false
  | .str _, .int _ => Q false
  | _, _ => P
def oEq : MO := fun st a b Q => eqS a b (fun k => Q (.bl k) st) ((Dat (dr st a) = true ∧ Dat (dr st b) = true ∧ SeqAt.shaped (py (dr st a)) = true ∧ SeqAt.shaped (py (dr st b)) = true) ∧ Q (.bl (PyData.eqv (py (dr st a)) (py (dr st b)))) st)
def oNe : MO := fun st a b Q => eqS a b (fun k => Q (.bl (!k)) st) ((Dat (dr st a) = true ∧ Dat (dr st b) = true ∧ SeqAt.shaped (py (dr st a)) = true ∧ SeqAt.shaped (py (dr st b)) = true) ∧ Q (.bl (!PyData.eqv (py (dr st a)) (py (dr st b)))) st)
theorem eqS_of {H : Hp} {μ : Mu} {a b : D} {x y : V} {Q : Bool → Prop} {P : Prop} (ra : Rp K H μ a x) (rb : Rp K H μ b y) (h : eqS a b Q P) : (scal x y = true ∧ Q (decide (x = y))) ∨ P := by
  unfold eqS at h
  split at h <;> (try simp only [Rp] at ra rb) <;> (try subst ra rb)
  · refine .inl ⟨rfl, ?_⟩
    rw [show decide (V.int _ = V.int _) = _ from dec_int, Bool.beq_eq_decide_eq]; exact h
  · refine .inl ⟨rfl, ?_⟩
    rw [dec_tx]; exact h
  · refine .inl ⟨rfl, ?_⟩
    rw [show decide (V.bl _ = V.bl _) = _ from dec_bl, Bool.beq_eq_decide_eq]; exact h
  · exact .inl ⟨rfl, h⟩
  · exact .inl ⟨rfl, h⟩
  · exact .inl ⟨rfl, h⟩
  · exact .inl ⟨rfl, h⟩
  · exact .inl ⟨rfl, h⟩
  · exact .inl ⟨rfl, h⟩
  · exact .inl ⟨rfl, h⟩
  · exact .inr h
theorem do_eq (hu : X.A.units + 64 < cLine) (hK : X.K = K := by rfl) : OpR X (compareOp .Eq) (lO K oEq) := by
  subst hK
  refine OpR_imp (OpR.or op_eq (op_eqD hu)) fun x y H Q ⟨μ, st, a, b, Qd, ra, rb, s, hm, k⟩ => ?_
  rcases eqS_of ra rb hm with ⟨h1, h2⟩ | ⟨⟨h1, h2, h3, h4⟩, q⟩
  · exact .inl ⟨h1, k.at h2 (.bl _ _ _) s⟩
  · exact .inr ⟨_, _, ra.drAt s h1, rb.drAt s h2, h3, h4, k.at q (.bl _ _ _) s⟩
theorem do_ne (hu : X.A.units + 64 < cLine) (hK : X.K = K := by rfl) : OpR X (compareOp .NotEq) (lO K oNe) := by
  subst hK
  refine OpR_imp (OpR.or op_ne (op_neD hu)) fun x y H Q ⟨μ, st, a, b, Qd, ra, rb, s, hm, k⟩ => ?_
  rcases eqS_of ra rb hm with ⟨h1, h2⟩ | ⟨⟨h1, h2, h3, h4⟩, q⟩
  · exact .inl ⟨h1, k.at h2 (.bl _ _ _) s⟩
  · exact .inr ⟨_, _, ra.drAt s h1, rb.drAt s h2, h3, h4, k.at q (.bl _ _ _) s⟩
/-! ### < <= > >= of ints, of texts -/
def cmpS (p : Int → Int → Bool) (q : List Nat → List Nat → Bool) : MO := fun st a b Q => match a, b with
  | .int i, .int j => Q (.bl (p i j)) st
  | .str l, .str m => Q (.bl (q l m)) st
  | _, _ => False
abbrev oLt : MO := cmpS (fun i j => decide (i < j)) fun l m => decide (l < m)
abbrev oLe : MO := cmpS (fun i j => decide (i ≤ j)) fun l m => !decide (m < l)
abbrev oGt : MO := cmpS (fun i j => decide (j < i)) fun l m => decide (m < l)
abbrev oGe : MO := cmpS (fun i j => decide (j ≤ i)) fun l m => !decide (l < m)
theorem cmp_of {H : Hp} {f : Value → Value → Sem Value} {p : Int → Int → Bool} {q : List Nat → List Nat → Bool} (h1 : OpR X f (rI0 fun i j => .bl (p i j))) (h2 : OpR X f (fun x y H Q => ∃ i j, x = .str i ∧ y = .str j ∧ Q (.bl (q i.cps.toList j.cps.toList)) H)) : OpR X f (lO K (cmpS p q)) := by
  refine OpR_imp (OpR.or h1 h2) fun x y H Q ⟨μ, st, a, b, Qd, ra, rb, s, hm, k⟩ => ?_
  unfold cmpS at hm
  split at hm
  · simp only [Rp] at ra rb
    exact .inl ⟨_, _, ra, rb, k.at hm (.bl _ _ _) s⟩
  · simp only [Rp] at ra rb
    exact .inr ⟨_, _, ra, rb, by rw [tx_toList, tx_toList]; exact k.at hm (.bl _ _ _) s⟩
  · exact hm.elim
theorem do_lt : OpR X (compareOp .Lt) (lO K oLt) := cmp_of (H := fun _ => none) op_lt op_lt_str
theorem do_le : OpR X (compareOp .LtE) (lO K oLe) := cmp_of (H := fun _ => none) op_le op_le_str
theorem do_gt : OpR X (compareOp .Gt) (lO K oGt) := cmp_of (H := fun _ => none) op_gt op_gt_str
theorem do_ge : OpR X (compareOp .GtE) (lO K oGe) := cmp_of (H := fun _ => none) op_ge op_ge_str
end
end DL
set_option Elab.async false
set_option linter.all false
set_option maxRecDepth 100000
set_option maxHeartbeats 2000000
namespace DL
open PySem PySem.Spec PyProof.Rows L2 Nf
section
variable {K : PySem.W.Frag} {X : Cx}
/-! ### lists of one kind -/
theorem RpL.strs {H : Hp} {μ : Mu} : ∀ {ls : List (List Nat)} {vs : List V}, RpL K H μ (ls.map D.str) vs → vs = vtx ls
  | [], _, h => by simp only [List.map_nil, RpL] at h; rw [h]; rfl
  | l :: ls, _, h => by
    simp only [List.map_cons, RpL] at h
    obtain ⟨v, r, rfl, h1, h2⟩ := h
    simp only [Rp] at h1
    rw [h1, RpL.strs h2]; rfl
theorem RpL.ofStrs {H : Hp} {μ : Mu} : ∀ ls : List (List Nat), RpL K H μ (ls.map D.str) (vtx ls)
  | [] => .nil
  | l :: ls => .cons (.str _ _ _) (RpL.ofStrs ls)
theorem RpL.ints {H : Hp} {μ : Mu} : ∀ {ls : List Int} {vs : List V}, RpL K H μ (ls.map D.int) vs → vs = ls.map V.int
  | [], _, h => by simp only [List.map_nil, RpL] at h; rw [h]; rfl
  | l :: ls, _, h => by
    simp only [List.map_cons, RpL] at h
    obtain ⟨v, r, rfl, h1, h2⟩ := h
    simp only [Rp] at h1
    rw [h1, RpL.ints h2]; rfl
theorem RpL.ofInts {H : Hp} {μ : Mu} : ∀ ls : List Int, RpL K H μ (ls.map D.int) (ls.map V.int)
  | [] => .nil
  | l :: ls => .cons (.int _ _ _) (RpL.ofInts ls)
theorem RpL.bls {H : Hp} {μ : Mu} : ∀ {ls : List Bool} {vs : List V}, RpL K H μ (ls.map D.bl) vs → vs = ls.map V.bl
  | [], _, h => by simp only [List.map_nil, RpL] at h; rw [h]; rfl
  | l :: ls, _, h => by
    simp only [List.map_cons, RpL] at h
    obtain ⟨v, r, rfl, h1, h2⟩ := h
    simp only [Rp] at h1
    rw [h1, RpL.bls h2]; rfl
/-! ### in, not in -/
def flatD : D → Bool
  | .non => true
  | .bl _ => true
  | .int _ => true
  | .str _ => true
  | _ => false
def vOf : D → V
  | .bl b => .bl b
  | .int i => .int i
  | .str l => .str (tx l)
  | _ => .non
theorem Rp.flat {H : Hp} {μ : Mu} {d : D} {v : V} (r : Rp K H μ d v) (h : flatD d = true) : v = vOf d ∧ flatV v = true := by
  cases d <;> simp only [flatD] at h <;> (try (cases h)) <;> simp only [Rp] at r <;> subst r <;> exact ⟨rfl, rfl⟩
theorem RpL.flatAll {H : Hp} {μ : Mu} : ∀ {ds : List D} {vs : List V}, RpL K H μ ds vs → ds.all flatD = true → vs = ds.map vOf ∧ vs.all flatV = true
  | [], _, h, _ => by simp only [RpL] at h; subst h; exact ⟨rfl, rfl⟩
  | d :: ds, _, h, e => by
    simp only [RpL] at h
    obtain ⟨v, r, rfl, h1, h2⟩ := h
    rw [List.all_cons, Bool.and_eq_true] at e
    obtain ⟨a, b⟩ := h1.flat e.1
    obtain ⟨c, d'⟩ := RpL.flatAll h2 e.2
    exact ⟨by rw [a, c]; rfl, by rw [List.all_cons, b, d']; rfl⟩
/-- is d among xs, flat things -/
def inF (d : D) (xs : List D) : Bool := inV (vOf d) (xs.map vOf)
theorem inF_strs (l : List Nat) (ls : List (List Nat)) : inF (.str l) (ls.map D.str) = decide (l ∈ ls) := by
  unfold inF inV
  rw [List.map_map]
  induction ls with
  | nil => rfl
  | cons m ls ih =>
    rw [List.map_cons, List.any_cons, ih]
    show ((tx m == tx l) || _) = _
    by_cases e : m = l
    · subst e; simp
    · have : (tx m == tx l) = false := by
        rw [Bool.eq_false_iff]
        intro z
        exact e (tx_inj (by simpa using z))
      rw [this, Bool.false_or]
      have e' : ¬ l = m := fun z => e z.symm
      simp [e']
def lookD (k : DK) : List (DK × D) → Option D
  | [] => none
  | (j, d) :: r => if j = k then some d else lookD k r
theorem kk_eq {a b : DK} : kk a = kk b ↔ a = b := ⟨kk_inj, fun h => by rw [h]⟩
theorem RpK.look {H : Hp} {μ : Mu} (k : DK) : ∀ {ds : List (DK × D)} {vs : List (Key × V)}, RpK K H μ ds vs → match lookD k ds with
    | some d => ∃ v, valV vs (kk k) = some v ∧ Rp K H μ d v
    | none => valV vs (kk k) = none
  | [], _, h => by simp only [RpK] at h; subst h; exact rfl
  | (j, d) :: ds, _, h => by
    simp only [RpK] at h
    obtain ⟨v, r, rfl, h1, h2⟩ := h
    simp only [RpP] at h1
    unfold lookD
    by_cases e : j = k
    · rw [if_pos e]
      exact ⟨v, by rw [valV_pos (by rw [e])], h1⟩
    · rw [if_neg e]
      have := RpK.look k h2
      rw [valV_neg (fun z => e (kk_inj z))]
      exact this
/-- a key's data -/
def keyD (d : D) (Q : DK → Prop) : Prop := match d with
  | .int i => Q (.inl i)
  | .str l => Q (.inr l)
  | _ => False
theorem Rp.key {H : Hp} {μ : Mu} {d : D} {v : V} {Q : DK → Prop} (r : Rp K H μ d v) (h : keyD d Q) : ∃ k, v = kV (kk k) ∧ Q k := by
  cases d <;> simp only [keyD] at h <;> simp only [Rp] at r <;> subst r
  · exact ⟨_, rfl, h⟩
  · exact ⟨_, rfl, h⟩
def oInB (neg : Bool) : MO := fun st a b Q => match dr st b with
  | .str m => match a with
    | .str [c] => Q (.bl (neg != decide (c ∈ m))) st
    | _ => False
  | .lst xs => (flatD a = true ∧ xs.all flatD = true) ∧ Q (.bl (neg != inF a xs)) st
  | .tup xs => (flatD a = true ∧ xs.all flatD = true) ∧ Q (.bl (neg != inF a xs)) st
  | .dic kvs => keyD a fun k => Q (.bl (neg != (lookD k kvs).isSome)) st
  | _ => False
def rDIn (neg : Bool) : R2 := fun y x H Q => ∃ a o, x = .ref a ∧ DGet H a y o ∧ Q (.bl (neg != o.isSome)) H
theorem op_din (hu : X.A.units + 1 < cLine) : OpR X (compareOp .In) (rDIn false) := fun pins s σ H x y v u Q I rx ry ⟨a, o, e, g, q⟩ => by
  subst e
  obtain rfl : u = Value.ref a := ry
  exact d_in hu I g rx fun s3 I3 => ⟨.bl o.isSome, H, I3, rfl, by simpa using q⟩
theorem op_dnotin (hu : X.A.units + 1 < cLine) : OpR X (compareOp .NotIn) (rDIn true) := fun pins s σ H x y v u Q I rx ry ⟨a, o, e, g, q⟩ => by
  subst e
  obtain rfl : u = Value.ref a := ry
  exact d_notIn hu I g rx fun s3 I3 => ⟨.bl (!o.isSome), H, I3, rfl, by simpa using q⟩
theorem dget_of {H : Hp} {a : Addr} {vs : List (Key × V)} {k : Key} (h : Rd H a (.dK vs)) : DGet H a (kV k) (valV vs k) := .inl ⟨vs, k, h, rfl, rfl⟩
theorem in_of {neg : Bool} {f : Value → Value → Sem Value} (h1 : OpR X f (fun x y H Q => ∃ (c : Nat) (z : Str), x = .str ⟨#[c]⟩ ∧ y = .str z ∧ Q (.bl (neg != decide (c ∈ z.cps.toList))) H)) (h2 : OpR X f (rIn K neg)) (h3 : OpR X f (rDIn neg)) : OpR X f (lO K (oInB neg)) := by
  refine OpR_imp (OpR.or h1 (OpR.or h2 h3)) fun x y H Q hh => ?_
  obtain ⟨μ, st, a, b, Qd, ra, rb, s, hm, k⟩ := hh
  unfold oInB at hm
  split at hm
  · rename_i m e
    have eb : b = .str m := by
      cases b <;> simp only [dr] at e <;> (try (cases e)) <;> (try rfl)
      all_goals (split at e <;> cases e)
    subst eb
    split at hm
    · simp only [Rp] at ra rb
      exact .inl ⟨_, _, ra, rb, by rw [tx_toList]; exact k.at hm (.bl _ _ _) s⟩
    · exact hm.elim
  · rename_i xs e
    obtain ⟨p, vs, rfl, h4, h5⟩ := rb.lstAt s e
    obtain ⟨e1, e2⟩ := ra.flat hm.1.1
    obtain ⟨e3, e4⟩ := h5.flatAll hm.1.2
    refine .inr (.inl ⟨p, vs, rfl, .inl h4, e2, e4, ?_⟩)
    have : (if neg = true then !inV x vs else inV x vs) = (neg != inF a xs) := by
      unfold inF; rw [e1, e3]; cases neg <;> simp
    rw [this]
    exact k.at hm.2 (.bl _ _ _) s
  · rename_i xs e
    obtain ⟨p, vs, rfl, h4, h5⟩ := rb.tupAt s e
    obtain ⟨e1, e2⟩ := ra.flat hm.1.1
    obtain ⟨e3, e4⟩ := h5.flatAll hm.1.2
    refine .inr (.inl ⟨p, vs, rfl, .inr h4, e2, e4, ?_⟩)
    have : (if neg = true then !inV x vs else inV x vs) = (neg != inF a xs) := by
      unfold inF; rw [e1, e3]; cases neg <;> simp
    rw [this]
    exact k.at hm.2 (.bl _ _ _) s
  · rename_i kvs e
    obtain ⟨p, vs, rfl, h4, h5⟩ := rb.dicAt s e
    obtain ⟨j, rfl, q⟩ := ra.key hm
    refine .inr (.inr ⟨p, _, rfl, dget_of h4, ?_⟩)
    have := h5.look j
    cases z : lookD j kvs with
    | none => rw [z] at this q; rw [this]; exact k.at q (.bl _ _ _) s
    | some d =>
      rw [z] at this q
      obtain ⟨v, hv, _⟩ := this
      rw [hv]
      exact k.at q (.bl _ _ _) s
  · exact hm.elim
theorem do_in (hu : X.A.units + 1 < cLine) (hK : X.K = K := by rfl) : OpR X (compareOp .In) (lO K (oInB false)) := by
  subst hK
  exact in_of (OpR_imp op_in_sign fun x y H Q ⟨c, z, a, b, q⟩ => ⟨c, z, a, b, by simpa using q⟩) op_in_seq (op_din hu)
theorem do_notin (hu : X.A.units + 1 < cLine) (hK : X.K = K := by rfl) : OpR X (compareOp .NotIn) (lO K (oInB true)) := by
  subst hK
  exact in_of (OpR_imp op_notIn_sign fun x y H Q ⟨c, z, a, b, q⟩ => ⟨c, z, a, b, by simpa using q⟩) op_notIn_seq (op_dnotin hu)
/-! ### subscripts -/
theorem ix_dict (hu : X.A.units + 1 < cLine) : IxR X (fun x y H Q => ∃ a v, x = .ref a ∧ DGet H a y (some v) ∧ Q v H) := by
  intro value slice pins s σ H x y v u Q I rx ry h hs
  obtain ⟨a, w, e, g, q⟩ := h
  subst e
  obtain rfl : v = Value.ref a := rx
  exact tail_any (dict_typeIs I g) PySem.F.slot_dict_getitem.lookup (d_getItem hu I g ry fun w' s3 I3 rw' => ⟨w, H, I3, rw', q⟩) hs
def oIx : MO := fun st a b Q => match dr st a with
  | .str l => isI b fun i => match atI l i with
    | some c => l.length ≤ 1000000 ∧ Q (.str [c]) st
    | none => False
  | .lst xs => isI b fun i => match atI xs i with
    | some d => Q d st
    | none => False
  | .tup xs => isI b fun i => match atI xs i with
    | some d => Q d st
    | none => False
  | .dic kvs => keyD b fun k => match lookD k kvs with
    | some d => Q d st
    | none => False
  | _ => False
theorem RpL.atI {H : Hp} {μ : Mu} {ds : List D} {vs : List V} {i : Int} {d : D} (r : RpL K H μ ds vs) (h : L2.atI ds i = some d) : ∃ v, L2.atI vs i = some v ∧ Rp K H μ d v := by
  unfold L2.atI at h ⊢
  rw [r.length] at h
  cases q : ixN vs.length i with
  | none => rw [q] at h; cases h
  | some j =>
    rw [q] at h
    exact r.get h
theorem dix (hu : X.A.units + 1 < cLine) (hK : X.K = K := by rfl) : IxR X (lO K oIx) := by
  subst hK
  intro value slice pins s0 σ H x y v u Q I rx ry hh hs
  refine (ix_list.or (ix_tup.or (ix_str.or (ix_dict hu)))) value slice pins s0 σ H x y v u Q I rx ry ?_ hs
  obtain ⟨μ, st, a, b, Qd, ra, rb, s, hm, k⟩ := hh
  unfold oIx at hm
  split at hm
  · rename_i l e
    have ea : a = .str l := by
      cases a <;> simp only [dr] at e <;> (try (cases e)) <;> (try rfl)
      all_goals (split at e <;> cases e)
    subst ea
    obtain ⟨i, rfl, rfl, q⟩ := rb.int_of hm
    simp only [Rp] at ra
    split at q
    · rename_i c hc
      exact .inr (.inr (.inl ⟨_, i, c, ra, rfl, by rw [tx_length]; exact sz5 q.1, by rw [tx_toList]; exact hc, k.at q.2 (.str _ _ _) s⟩))
    · exact q.elim
  · rename_i xs e
    obtain ⟨p, vs, rfl, h4, h5⟩ := ra.lstAt s e
    obtain ⟨i, rfl, rfl, q⟩ := rb.int_of hm
    split at q
    · rename_i d hd
      obtain ⟨w, hw, rw⟩ := h5.atI hd
      exact .inl ⟨p, vs, i, w, rfl, rfl, h4, hw, k.at q rw s⟩
    · exact q.elim
  · rename_i xs e
    obtain ⟨p, vs, rfl, h4, h5⟩ := ra.tupAt s e
    obtain ⟨i, rfl, rfl, q⟩ := rb.int_of hm
    split at q
    · rename_i d hd
      obtain ⟨w, hw, rw⟩ := h5.atI hd
      exact .inr (.inl ⟨p, vs, i, w, rfl, rfl, h4, hw, k.at q rw s⟩)
    · exact q.elim
  · rename_i kvs e
    obtain ⟨p, vs, rfl, h4, h5⟩ := ra.dicAt s e
    obtain ⟨j, rfl, q⟩ := rb.key hm
    have := h5.look j
    split at q
    · rename_i d hd
      rw [hd] at this
      obtain ⟨w, hw, rw⟩ := this
      exact .inr (.inr (.inr ⟨p, w, rfl, by rw [← hw]; exact dget_of h4, k.at q rw s⟩))
    · exact q.elim
  · exact hm.elim
theorem de_ix {a b : Expr} {f g : ME} {pos : Pos} (hu : X.A.units + 1 < cLine) (ha : DE K X a f) (hb : DE K X b g) (hK : X.K = K := by rfl) (hs : PlainIx b := by exact fun _ _ => rfl) : DE K X (.Subscript a b pos) (mBin oIx f g) :=
  PE_imp (pe_ix (dix hu hK) ha hb hs) fun _ _ _ h => lE_bin h
end
end DL
set_option Elab.async false
set_option linter.all false
set_option maxRecDepth 100000
set_option maxHeartbeats 2000000
namespace DL
open PySem PySem.Spec PyProof.Rows L2 Nf
section
variable {K : PySem.W.Frag} {X : Cx} {o i e value : Expr} {es : List Expr} {pos : Pos} {f g h : ME} {r : MA}
/-! ### stores at subscripts: a cell's -/
def putD (k : DK) (d : D) : List (DK × D) → List (DK × D)
  | [] => [(k, d)]
  | (j, e) :: r => if j = k then (k, d) :: r else (j, e) :: putD k d r
/-- no key twice -/
def NdK (kvs : List (DK × D)) : Prop := (kvs.map Prod.fst).Nodup
theorem putK_eq {κ : Type} [DecidableEq κ] (kvs : List (κ × V)) (k : κ) (v : V) : putK kvs k v = if (kvs.any fun kv => decide (kv.1 = k)) = true then kvs.map (fun kv => if kv.1 = k then (kv.1, v) else kv) else kvs ++ [(k, v)] := by
  unfold putK; rfl
open Classical in
theorem RpK.put {H : Hp} {μ : Mu} {k : DK} {d : D} {v : V} (q : Rp K H μ d v) : ∀ {ds : List (DK × D)} {vs : List (Key × V)}, RpK K H μ ds vs → NdK ds → RpK K H μ (putD k d ds) (putK vs (kk k) v) := by
  have key : ∀ {ds : List (DK × D)} {vs : List (Key × V)}, RpK K H μ ds vs → (vs.any fun kv => decide (kv.1 = kk k)) = decide (k ∈ ds.map Prod.fst) := by
    intro ds
    induction ds with
    | nil => intro vs h; simp only [RpK] at h; subst h; simp
    | cons p ds ih =>
      intro vs h
      simp only [RpK] at h
      obtain ⟨v', r, rfl, _, h2⟩ := h
      rw [List.any_cons, ih h2, List.map_cons]
      by_cases e : k = p.1
      · subst e; simp
      · have e' : ¬ kk p.1 = kk k := fun z => e (kk_inj z).symm
        simp [e, e']
  have miss : ∀ {ds : List (DK × D)} {vs : List (Key × V)}, RpK K H μ ds vs → k ∉ ds.map Prod.fst → vs.map (fun kv => if kv.1 = kk k then (kv.1, v) else kv) = vs ∧ putD k d ds = ds ++ [(k, d)] := by
    intro ds
    induction ds with
    | nil => intro vs h _; simp only [RpK] at h; subst h; exact ⟨rfl, rfl⟩
    | cons p ds ih =>
      intro vs h hn
      obtain ⟨j, e⟩ := p
      simp only [RpK] at h
      obtain ⟨v', r, rfl, _, h2⟩ := h
      simp only [List.map_cons, List.mem_cons, not_or] at hn
      obtain ⟨a, b⟩ := ih h2 hn.2
      have e1 : ¬ kk j = kk k := fun z => hn.1 (kk_inj z).symm
      have e2 : ¬ j = k := fun z => hn.1 z.symm
      refine ⟨?_, ?_⟩
      · rw [List.map_cons, a, if_neg e1]
      · unfold putD; rw [if_neg e2, b]; rfl
  have app : ∀ {ds : List (DK × D)} {vs : List (Key × V)}, RpK K H μ ds vs → RpK K H μ (ds ++ [(k, d)]) (vs ++ [(kk k, v)]) := by
    intro ds
    induction ds with
    | nil => intro vs h; simp only [RpK] at h; subst h; simp only [List.nil_append, RpK, RpP]; exact ⟨v, [], rfl, q, rfl⟩
    | cons p ds ih =>
      intro vs h
      simp only [RpK] at h
      obtain ⟨v', r, rfl, h1, h2⟩ := h
      simp only [List.cons_append, RpK]
      exact ⟨v', _, rfl, h1, ih h2⟩
  intro ds vs h nd
  rw [putK_eq, key h]
  by_cases hm : k ∈ ds.map Prod.fst
  · rw [decide_eq_true hm, if_pos rfl]
    clear app
    revert vs
    induction ds with
    | nil => intro vs h; cases hm
    | cons p ds ih =>
      intro vs h
      obtain ⟨j, e⟩ := p
      simp only [RpK] at h
      obtain ⟨v', r, rfl, h1, h2⟩ := h
      unfold NdK at nd
      simp only [List.map_cons, List.nodup_cons] at nd
      unfold putD
      by_cases ej : j = k
      · subst ej
        rw [if_pos rfl, List.map_cons, if_pos rfl]
        obtain ⟨a, _⟩ := miss h2 nd.1
        rw [a]
        simp only [RpK, RpP]
        exact ⟨v, r, rfl, q, h2⟩
      · have ej' : ¬ kk j = kk k := fun z => ej (kk_inj z)
        rw [if_neg ej, List.map_cons, if_neg ej']
        simp only [RpK]
        refine ⟨v', _, rfl, h1, ?_⟩
        simp only [List.map_cons, List.mem_cons] at hm
        exact ih nd.2 (hm.resolve_left fun z => ej z.symm) h2
  · rw [decide_eq_false hm, if_neg Bool.false_ne_true, (miss h hm).2]
    exact app h
/-- o[i] = v, by values -/
abbrev MSt := Store → D → D → D → (Store → Prop) → Prop
def lSet (K : PySem.W.Frag) (m : MSt) : TSet := fun o i v H Q => ∃ μ st a b d Qd, Rp K H μ a o ∧ Rp K H μ b i ∧ Rp K H μ d v ∧ RpS K H μ st ∧ m st a b d Qd ∧ ∀ st' μ' H', Qd st' → RpS K H' μ' st' → Go H μ H' μ' → Q H'
def oSet : MSt := fun st a b d Q => match a with
  | .cel n => match st[n]? with
    | some (.lst xs) => isI b fun i => match ixN xs.length i with
      | some j => Q (st.set n (.lst (xs.set j d)))
      | none => False
    | some (.dic kvs) => keyD b fun k => (NdK kvs ∧ kvs.length < 1000000) ∧ Q (st.set n (.dic (putD k d kvs)))
    | _ => False
  | _ => False
theorem PSet_or {t t' : TSet} (h : PSet X t) (h' : PSet X t') : PSet X (fun o i v H Q => t o i v H Q ∨ t' o i v H Q) :=
  fun pins s σ H o i v ov iv u Q I ro ri rv q => q.elim (h pins s σ H o i v ov iv u Q I ro ri rv) (h' pins s σ H o i v ov iv u Q I ro ri rv)
theorem PSet_imp {t t' : TSet} (h : PSet X t) (j : ∀ o i v H Q, t' o i v H Q → t o i v H Q) : PSet X t' :=
  fun pins s σ H o i v ov iv u Q I ro ri rv q => h pins s σ H o i v ov iv u Q I ro ri rv (j _ _ _ _ _ q)
theorem set_dict (hu : X.A.units + 1 < cLine) : PSet X (fun o i v H Q => ∃ a H', o = .ref a ∧ DPut H a i v H' ∧ Q H') :=
  fun pins s σ H o i v ov iv u Q I ro ri rv ⟨a, H', e, g, q⟩ => by
    subst e
    obtain rfl : ov = Value.ref a := ro
    exact d_setItem hu I g ri rv fun s4 I4 => ⟨H', I4, q⟩
theorem dset (hu : X.A.units + 1 < cLine) : PSet X (lSet K oSet) := by
  refine PSet_imp (PSet_or set_list (set_dict hu)) fun o i v H Q hh => ?_
  obtain ⟨μ, st, a, b, d, Qd, ra, rb, rd, s, hm, k⟩ := hh
  unfold oSet at hm
  split at hm
  · rename_i n
    simp only [Rp] at ra
    obtain ⟨p, rfl, hp⟩ := ra
    split at hm
    · rename_i xs e
      obtain ⟨vs, h1, h2⟩ := s.at_ n p _ hp e
      obtain ⟨j, rfl, rfl, q⟩ := rb.int_of hm
      split at q
      · rename_i j' hj
        have hpm := List.mem_of_getElem? hp
        refine .inl ⟨p, vs, j, j', rfl, rfl, h1, by rw [← h2.length]; exact hj, k _ μ _ q (s.cellSet hp ⟨_, upd_same, ?_⟩) (.cellSet hpm)⟩
        exact (RpL.set (rd) j' h2).go (.cellSet hpm)
      · exact q.elim
    · rename_i kvs e
      obtain ⟨vs, h1, h2⟩ := s.at_ n p _ hp e
      obtain ⟨j, rfl, ⟨nd, hl⟩, q⟩ := rb.key hm
      have hpm := List.mem_of_getElem? hp
      have hlen : kvs.length = vs.length := by
        have : ∀ {ds : List (DK × D)} {vs : List (Key × V)}, RpK K H μ ds vs → ds.length = vs.length := by
          intro ds
          induction ds with
          | nil => intro vs h; simp only [RpK] at h; subst h; rfl
          | cons p ds ih => intro vs h; simp only [RpK] at h; obtain ⟨v, r, rfl, _, h2⟩ := h; rw [List.length_cons, List.length_cons, ih h2]
        exact this h2
      refine .inr ⟨p, _, rfl, .inl ⟨vs, kk j, h1, rfl, by rw [show sizeLine = 16777216 from sizeLine_eq]; omega, rfl⟩, k _ μ _ q (s.cellSet hp ⟨_, upd_same, ?_⟩) (.cellSet hpm)⟩
      exact (RpK.put rd h2 nd).go (.cellSet hpm)
    · exact hm.elim
  · exact hm.elim
def gSub' (f g : ME) (m : MSt) : MG := fun d ρ st Q => f ρ st fun o st1 => g ρ st1 fun i st2 => m st2 o i d fun st3 => Q ρ st3
theorem dg_sub {m : MSt} (ho : DE K X o f) (hi : DE K X i g) (hs : PSet X (lSet K m))
    (ha : ∀ v, assign (.Subscript o i pos) X.env v = (do
      let ov ← holding [v] (eval o X.env)
      let iv ← holding [v, ov] (eval i X.env)
      standAt pos
      holding [v, ov, iv] (setItem ov iv v)
      release [v, ov, iv] []) := by intro _; rfl) : DG K X (.Subscript o i pos) (gSub' f g m) :=
  PG_imp (pg_sub ho hi hs ha) fun v σ H Q ⟨μ, ρ, st, d, Qd, rd, he, s, hm, k⟩ =>
  ⟨μ, ρ, st, _, he, s, hm, fun od st1 ov μ1 H1 q1 r1 s1 g1 => ⟨μ1, ρ, st1, _, he.go g1, s1, q1, fun di st2 iv μ2 H2 q2 r2 s2 g2 =>
    ⟨μ2, st2, od, di, d, _, r1.go g2, r2, rd.go (g1.trans g2), s2, q2, fun st3 μ3 H3 q3 s3 g3 => k _ _ _ _ _ q3 (he.go ((g1.trans g2).trans g3)) s3 ((g1.trans g2).trans g3)⟩⟩⟩
/-- d[k] = e, xs[i] = e as a statement -/
def sPut (f g h : ME) (m : MSt) : MS := sAsg h (gSub' f g m)
/-! ### methods of what is built in -/
def mBm (m : MM) (f : ME) (r : MA) : ME := fun ρ st Q => f ρ st fun x st1 => r ρ st1 fun ds st2 => m st2 x ds Q
/-- what must be so of the receiver when it is looked at, ahead of the arguments -/
def TyOk (K : PySem.W.Frag) (T : String) (m : MM) : Prop := ∀ μ H st d v, Rp K H μ d v → RpS K H μ st → ∀ st1 ds Q, m st1 d ds Q → tyV K T v H
/-- lists that are cells: append, pop -/
def isCel (st : Store) (d : D) (Q : Nat → List D → Prop) : Prop := match d with
  | .cel n => match st[n]? with
    | some (.lst xs) => Q n xs
    | _ => False
  | _ => False
def mApp (f g : ME) : ME := fun ρ st Q => f ρ st fun x st1 => isCel st1 x fun n _ => g ρ st1 fun y st2 => isCel st2 (.cel n) fun n xs => xs.length < 1000000 ∧ Q .non (st2.set n (.lst (xs ++ [y])))
theorem Rp.cel_of {H : Hp} {μ : Mu} {st : Store} {d : D} {v : V} {Q : Nat → List D → Prop} (r : Rp K H μ d v) (s : RpS K H μ st) (h : isCel st d Q) : ∃ n xs p vs, d = .cel n ∧ v = .ref p ∧ μ.c[n]? = some p ∧ H p = some (.lst vs) ∧ RpL K H μ xs vs ∧ st[n]? = some (.lst xs) ∧ Q n xs := by
  unfold isCel at h
  split at h
  · rename_i n
    split at h
    · rename_i xs e
      simp only [Rp] at r
      obtain ⟨p, rfl, hp⟩ := r
      obtain ⟨vs, h1, h2⟩ := s.at_ n p _ hp e
      exact ⟨n, xs, p, vs, rfl, rfl, hp, h1, h2, e, h⟩
    · exact h.elim
  · exact h.elim
theorem de_app {apos : Pos} (ho : DE K X o f) (he : DE K X e g) (hK : X.K = K := by rfl) (hbase : attributeBase o "append" X.env (eval o X.env) = eval o X.env := by rfl)
    (hfew : ((backTo pos (starEach [e] X.env)).all (fun x => !x.1) && (backToKw pos (keywordEach [] X.env)).all (fun x => x.1.isSome)
      && decide ([e].length + ([] : List Keyword).length + (if ([] : List Keyword).isEmpty then 0 else 1) < 30)) = true := by rfl)
    (hline : (apos.endLine == pos.line) = true := by rfl) (hs : starEach [e] X.env = (false, eval e X.env) :: starEach [] X.env := by rfl) (hplain : (backTo pos (starEach [] X.env)).any (·.1) = false := by rfl) :
    DE K X (.Call (.Attribute o "append" apos) [e] [] pos) (mApp f g) := by
  subst hK
  refine PE_imp (pe_bm PySem.F.plainAttrs_list PySem.F.slot_list_append PySem.F.type_list_append mt_append ho (pa_cons he pa_nil hs) hbase hfew hline hs hplain) fun σ H Q ⟨μ, ρ, st, Qd, hee, s, hm, k⟩ => ?_
  refine ⟨μ, ρ, st, _, hee, s, hm, fun d st1 v μ1 H1 q1 r1 s1 g1 => ?_⟩
  obtain ⟨n, xs, p, vs, rfl, rfl, hp, h1, h2, e1, q1⟩ := r1.cel_of s1 q1
  refine ⟨.inl ⟨rfl, vs, SqL.of h1⟩, μ1, ρ, st1, _, hee.go g1, s1, q1, fun y st2 w μ2 H2 q2 r2 s2 g2 => ?_⟩
  have r1' : Rp X.K H2 μ2 (.cel n) (.ref p) := r1.go g2
  obtain ⟨n', xs', p', vs', e3, e4, hp', h1', h2', e2, q2⟩ := r1'.cel_of s2 q2
  cases e3; cases e4
  have hpm := List.mem_of_getElem? hp'
  refine ⟨p, vs', w, rfl, rfl, h1', by rw [← h2'.length, show sizeLine = 16777216 from sizeLine_eq]; omega, ?_⟩
  refine k _ _ _ μ2 _ q2.2 (.non _ _) (s2.cellSet hp' ⟨_, upd_same, ?_⟩) ((g1.trans g2).trans (.cellSet hpm))
  exact (h2'.append (.cons r2 .nil)).go (.cellSet hpm)
/-- pool.pop(i) -/
def mPop (f g : ME) : ME := fun ρ st Q => f ρ st fun x st1 => isCel st1 x fun n _ => g ρ st1 fun y st2 => isCel st2 (.cel n) fun n xs => isI y fun i => (0 ≤ i ∧ i < 1000000) ∧ match xs[i.toNat]? with
  | some d => Q d (st2.set n (.lst (xs.eraseIdx i.toNat)))
  | none => False
theorem RpL.erase {H : Hp} {μ : Mu} : ∀ {ds : List D} {vs : List V} (n : Nat), RpL K H μ ds vs → RpL K H μ (ds.eraseIdx n) (vs.eraseIdx n)
  | [], _, n, h => by simp only [RpL] at h; rw [h]; exact .nil
  | d :: ds, _, 0, h => by
    simp only [RpL] at h
    obtain ⟨w, r, rfl, h1, h2⟩ := h
    exact h2
  | d :: ds, _, n + 1, h => by
    simp only [RpL] at h
    obtain ⟨w, r, rfl, h1, h2⟩ := h
    exact .cons h1 (RpL.erase n h2)
theorem de_pop {apos : Pos} (ho : DE K X o f) (he : DE K X e g) (hK : X.K = K := by rfl) (hbase : attributeBase o "pop" X.env (eval o X.env) = eval o X.env := by rfl)
    (hfew : ((backTo pos (starEach [e] X.env)).all (fun x => !x.1) && (backToKw pos (keywordEach [] X.env)).all (fun x => x.1.isSome)
      && decide ([e].length + ([] : List Keyword).length + (if ([] : List Keyword).isEmpty then 0 else 1) < 30)) = true := by rfl)
    (hline : (apos.endLine == pos.line) = true := by rfl) (hs : starEach [e] X.env = (false, eval e X.env) :: starEach [] X.env := by rfl) (hplain : (backTo pos (starEach [] X.env)).any (·.1) = false := by rfl) :
    DE K X (.Call (.Attribute o "pop" apos) [e] [] pos) (mPop f g) := by
  subst hK
  refine PE_imp (pe_bm PySem.F.plainAttrs_list PySem.F.slot_list_pop PySem.F.type_list_pop mt_popAt ho (pa_cons he pa_nil hs) hbase hfew hline hs hplain) fun σ H Q ⟨μ, ρ, st, Qd, hee, s, hm, k⟩ => ?_
  refine ⟨μ, ρ, st, _, hee, s, hm, fun d st1 v μ1 H1 q1 r1 s1 g1 => ?_⟩
  obtain ⟨n, xs, p, vs, rfl, rfl, hp, h1, h2, e1, q1⟩ := r1.cel_of s1 q1
  refine ⟨.inl ⟨rfl, vs, SqL.of h1⟩, μ1, ρ, st1, _, hee.go g1, s1, q1, fun y st2 w μ2 H2 q2 r2 s2 g2 => ?_⟩
  have r1' : Rp X.K H2 μ2 (.cel n) (.ref p) := r1.go g2
  obtain ⟨n', xs', p', vs', e3, e4, hp', h1', h2', e2, q2⟩ := r1'.cel_of s2 q2
  cases e3; cases e4
  obtain ⟨i, rfl, rfl, ⟨hi0, hi1⟩, q3⟩ := r2.int_of q2
  split at q3
  · rename_i dd hdd
    obtain ⟨w, hw, rw⟩ := h2'.get hdd
    have hpm := List.mem_of_getElem? hp'
    have hlt : i.toNat < vs'.length := (List.getElem?_eq_some_iff.mp hw).1
    refine ⟨p, vs', i, i.toNat, w, rfl, rfl, h1', by omega, by omega, ?_, hw, ?_⟩
    · exact seqIndex_of hi0 (by omega)
    · refine k _ _ _ μ2 _ q3 (rw.go (.cellSet hpm)) (s2.cellSet hp' ⟨_, upd_same, ?_⟩) ((g1.trans g2).trans (.cellSet hpm))
      exact (RpL.erase _ h2').go (.cellSet hpm)
  · exact q3.elim
end
end DL
set_option Elab.async false
set_option linter.all false
set_option maxRecDepth 100000
set_option maxHeartbeats 2000000
namespace DL
open PySem PySem.Spec PyProof.Rows L2 Nf
section
variable {K : PySem.W.Frag} {X : Cx} {o i e value : Expr} {es : List Expr} {pos : Pos} {f g h : ME} {r : MA}
/-! ### one argument -/
theorem RpL.one {H : Hp} {μ : Mu} {d : D} {vs : List V} (r : RpL K H μ [d] vs) : ∃ v, vs = [v] ∧ Rp K H μ d v := by
  simp only [RpL] at r
  obtain ⟨v, r', rfl, h1, h2⟩ := r
  exact ⟨v, by rw [h2], h1⟩
theorem RpL.two {H : Hp} {μ : Mu} {d e : D} {vs : List V} (r : RpL K H μ [d, e] vs) : ∃ v w, vs = [v, w] ∧ Rp K H μ d v ∧ Rp K H μ e w := by
  simp only [RpL] at r
  obtain ⟨v, r', rfl, h1, w, r2, rfl, h2, h3⟩ := r
  exact ⟨v, w, by rw [h3], h1, h2⟩
theorem RpL.three {H : Hp} {μ : Mu} {d e c : D} {vs : List V} (r : RpL K H μ [d, e, c] vs) : ∃ v w u, vs = [v, w, u] ∧ Rp K H μ d v ∧ Rp K H μ e w ∧ Rp K H μ c u := by
  simp only [RpL] at r
  obtain ⟨v, r', rfl, h1, w, r2, rfl, h2, u, r3, rfl, h3, h4⟩ := r
  exact ⟨v, w, u, by rw [h4], h1, h2, h3⟩
def cLen : MC := fun st ds Q => match ds with
  | [d] => match dr st d with
    | .str l => l.length ≤ 1000000 ∧ Q (.int l.length) st
    | .lst xs => Q (.int xs.length) st
    | .tup xs => Q (.int xs.length) st
    | _ => False
  | _ => False
theorem dr_str {st : Store} {d : D} {l : List Nat} (e : dr st d = .str l) : d = .str l := by
  cases d <;> simp only [dr] at e <;> (try (cases e)) <;> (try rfl)
  all_goals (split at e <;> cases e)
theorem dc_len (hK : X.K = K := by rfl) : CallR X (.builtin "len") (lC K cLen) := by
  subst hK
  refine CallR_imp call_len fun xs H Q hh => ?_
  obtain ⟨μ, st, ds, Qd, r, s, hm, k⟩ := hh
  unfold cLen at hm
  split at hm
  · rename_i d
    obtain ⟨v, rfl, rd⟩ := r.one
    split at hm
    · rename_i l e
      obtain rfl := dr_str e
      simp only [Rp] at rd; subst rd
      exact ⟨_, l.length, rfl, ⟨by rw [tx_length]; exact sz5 hm.1, by rw [tx_length]⟩, k.at hm.2 (.int _ _ _) s⟩
    · rename_i l e
      obtain ⟨p, vs, rfl, h4, h5⟩ := rd.lstAt s e
      exact ⟨_, l.length, rfl, .inl ⟨vs, h4, h5.length⟩, k.at hm (.int _ _ _) s⟩
    · rename_i l e
      obtain ⟨p, vs, rfl, h4, h5⟩ := rd.tupAt s e
      exact ⟨_, l.length, rfl, .inr ⟨vs, h4, h5.length⟩, k.at hm (.int _ _ _) s⟩
    · exact hm.elim
  · exact hm.elim
/-- a list of one kind -/
def lstOf (st : Store) (ds : List D) (P : List D → Prop) : Prop := match ds with
  | [d] => match dr st d with
    | .lst xs => P xs
    | _ => False
  | _ => False
theorem lstOf_at {H : Hp} {μ : Mu} {st : Store} {ds : List D} {vs : List V} {P : List D → Prop} (r : RpL K H μ ds vs) (s : RpS K H μ st) (h : lstOf st ds P) : ∃ p ws xs, vs = [.ref p] ∧ SqL K H p ws ∧ RpL K H μ xs ws ∧ P xs := by
  unfold lstOf at h
  split at h
  · obtain ⟨v, rfl, rd⟩ := r.one
    split at h
    · rename_i xs e
      obtain ⟨p, ws, rfl, h4, h5⟩ := rd.lstAt s e
      exact ⟨p, ws, xs, rfl, h4, h5, h⟩
    · exact h.elim
  · exact h.elim
def cSum : MC := fun st ds Q => lstOf st ds fun xs => ∃ ns : List Int, xs = ns.map D.int ∧ Q (.int ns.sum) st
theorem dc_sum (hc : X.calm = true) (hK : X.K = K := by rfl) : CallR X (.builtin "sum") (lC K cSum) := by
  subst hK
  refine CallR_imp (cr_sum hc) fun xs H Q hh => ?_
  obtain ⟨μ, st, ds, Qd, r, s, hm, k⟩ := hh
  obtain ⟨p, ws, xs, rfl, h4, h5, ns, rfl, q⟩ := lstOf_at r s hm
  rw [h5.ints] at h4
  exact ⟨p, ns, rfl, h4, k.at q (.int _ _ _) s⟩
def cAny : MC := fun st ds Q => lstOf st ds fun xs => ∃ bs : List Bool, xs = bs.map D.bl ∧ Q (.bl (bs.any id)) st
def cAll : MC := fun st ds Q => lstOf st ds fun xs => ∃ bs : List Bool, xs = bs.map D.bl ∧ Q (.bl (bs.all id)) st
theorem dc_any (hc : X.calm = true) (hK : X.K = K := by rfl) : CallR X (.builtin "any") (lC K cAny) := by
  subst hK
  refine CallR_imp (cr_any hc) fun xs H Q hh => ?_
  obtain ⟨μ, st, ds, Qd, r, s, hm, k⟩ := hh
  obtain ⟨p, ws, xs, rfl, h4, h5, ns, rfl, q⟩ := lstOf_at r s hm
  rw [h5.bls] at h4
  exact ⟨p, ns, rfl, h4, k.at q (.bl _ _ _) s⟩
theorem dc_all (hc : X.calm = true) (hK : X.K = K := by rfl) : CallR X (.builtin "all") (lC K cAll) := by
  subst hK
  refine CallR_imp (cr_all hc) fun xs H Q hh => ?_
  obtain ⟨μ, st, ds, Qd, r, s, hm, k⟩ := hh
  obtain ⟨p, ws, xs, rfl, h4, h5, ns, rfl, q⟩ := lstOf_at r s hm
  rw [h5.bls] at h4
  exact ⟨p, ns, rfl, h4, k.at q (.bl _ _ _) s⟩
/-! max, min: of a list, of two, of three -/
def mx (a b : Int) : Int := if a < b then b else a
def mn (a b : Int) : Int := if b < a then b else a
def cMaxMin (mx : Int → Int → Int) : MC := fun st ds Q => match ds with
  | [.int a, .int b] => Q (.int (mx a b)) st
  | [.int a, .int b, .int c] => Q (.int (mx (mx a b) c)) st
  | [d] => lstOf st [d] fun xs => ∃ n, ∃ ns : List Int, xs = (n :: ns).map D.int ∧ Q (.int (ns.foldl mx n)) st
  | _ => False
theorem mx_fold : ∀ (ns : List Int) (n : Int), ns.foldl mx n ∈ n :: ns ∧ ∀ y ∈ n :: ns, y ≤ ns.foldl mx n
  | [], n => ⟨List.mem_cons_self, fun y hy => by rw [List.mem_singleton.mp hy]; exact Int.le_refl _⟩
  | m :: ns, n => by
    obtain ⟨h1, h2⟩ := mx_fold ns (mx n m)
    refine ⟨?_, fun y hy => ?_⟩
    · rcases List.mem_cons.mp h1 with e | e
      · show ns.foldl mx (mx n m) ∈ _
        rw [e]
        unfold mx
        split
        · exact List.mem_cons_of_mem _ List.mem_cons_self
        · exact List.mem_cons_self
      · exact List.mem_cons_of_mem _ (List.mem_cons_of_mem _ e)
    · have h3 := h2 _ List.mem_cons_self
      have : n ≤ mx n m ∧ m ≤ mx n m := by unfold mx; split <;> omega
      show y ≤ ns.foldl mx (mx n m)
      rcases List.mem_cons.mp hy with e | e
      · omega
      · rcases List.mem_cons.mp e with e | e
        · omega
        · exact h2 y (List.mem_cons_of_mem _ e)
theorem mn_fold : ∀ (ns : List Int) (n : Int), ns.foldl mn n ∈ n :: ns ∧ ∀ y ∈ n :: ns, ns.foldl mn n ≤ y
  | [], n => ⟨List.mem_cons_self, fun y hy => by rw [List.mem_singleton.mp hy]; exact Int.le_refl _⟩
  | m :: ns, n => by
    obtain ⟨h1, h2⟩ := mn_fold ns (mn n m)
    refine ⟨?_, fun y hy => ?_⟩
    · rcases List.mem_cons.mp h1 with e | e
      · show ns.foldl mn (mn n m) ∈ _
        rw [e]
        unfold mn
        split
        · exact List.mem_cons_of_mem _ List.mem_cons_self
        · exact List.mem_cons_self
      · exact List.mem_cons_of_mem _ (List.mem_cons_of_mem _ e)
    · have h3 := h2 _ List.mem_cons_self
      have : mn n m ≤ n ∧ mn n m ≤ m := by unfold mn; split <;> omega
      show ns.foldl mn (mn n m) ≤ y
      rcases List.mem_cons.mp hy with e | e
      · omega
      · rcases List.mem_cons.mp e with e | e
        · omega
        · exact h2 y (List.mem_cons_of_mem _ e)
theorem dc_max (hc : X.calm = true) (hK : X.K = K := by rfl) : CallR X (.builtin "max") (lC K (cMaxMin mx)) := by
  subst hK
  refine CallR_imp (CallR_or (call_max2 hc) (CallR_or (call_max3Nu hc) (cr_max hc))) fun xs H Q hh => ?_
  obtain ⟨μ, st, ds, Qd, r, s, hm, k⟩ := hh
  unfold cMaxMin at hm
  split at hm
  · obtain ⟨v, w, rfl, r1, r2⟩ := r.two
    simp only [Rp] at r1 r2
    exact .inl ⟨_, _, by rw [r1, r2], k.at hm (.int _ _ _) s⟩
  · rename_i a b c
    obtain ⟨v, w, u, rfl, r1, r2, r3⟩ := r.three
    simp only [Rp] at r1 r2 r3
    subst r1 r2 r3
    refine .inr (.inl ⟨_, _, _, .int (mx (mx a b) c), rfl, ?_, k.at hm (.int _ _ _) s⟩)
    unfold nuMax3 nuMax2
    have e1 : ∀ i j : Int, nuLt (.int i) (.int j) = some (decide (i < j)) := fun i j => rfl
    rw [e1]
    unfold mx
    by_cases h : a < b <;> simp [h, e1] <;> split <;> simp_all
  · obtain ⟨p, ws, xs, rfl, h4, h5, n, ns, rfl, q⟩ := lstOf_at r s hm
    rw [h5.ints] at h4
    refine .inr (.inr ⟨p, n :: ns, rfl, h4, by simp, fun m hm1 hm2 => ?_⟩)
    have e : m = ns.foldl mx n := by
      obtain ⟨a, b⟩ := mx_fold ns n
      have := hm2 _ a
      have := b _ hm1
      omega
    rw [e]
    exact k.at q (.int _ _ _) s
  · exact hm.elim
theorem dc_min (hc : X.calm = true) (hK : X.K = K := by rfl) : CallR X (.builtin "min") (lC K (cMaxMin mn)) := by
  subst hK
  refine CallR_imp (CallR_or (call_min2 hc) (CallR_or (call_min3Nu hc) (cr_min hc))) fun xs H Q hh => ?_
  obtain ⟨μ, st, ds, Qd, r, s, hm, k⟩ := hh
  unfold cMaxMin at hm
  split at hm
  · obtain ⟨v, w, rfl, r1, r2⟩ := r.two
    simp only [Rp] at r1 r2
    exact .inl ⟨_, _, by rw [r1, r2], k.at hm (.int _ _ _) s⟩
  · rename_i a b c
    obtain ⟨v, w, u, rfl, r1, r2, r3⟩ := r.three
    simp only [Rp] at r1 r2 r3
    subst r1 r2 r3
    refine .inr (.inl ⟨_, _, _, .int (mn (mn a b) c), rfl, ?_, k.at hm (.int _ _ _) s⟩)
    unfold nuMin3 nuMin2
    have e1 : ∀ i j : Int, nuLt (.int i) (.int j) = some (decide (i < j)) := fun i j => rfl
    rw [e1]
    unfold mn
    by_cases h : b < a <;> simp [h, e1] <;> split <;> simp_all
  · obtain ⟨p, ws, xs, rfl, h4, h5, n, ns, rfl, q⟩ := lstOf_at r s hm
    rw [h5.ints] at h4
    refine .inr (.inr ⟨p, n :: ns, rfl, h4, by simp, fun m hm1 hm2 => ?_⟩)
    have e : m = ns.foldl mn n := by
      obtain ⟨a, b⟩ := mn_fold ns n
      have := hm2 _ a
      have := b _ hm1
      omega
    rw [e]
    exact k.at q (.int _ _ _) s
  · exact hm.elim
/-! sorted: texts (fewer than 64), ints -/
def cSorted : MC := fun st ds Q => lstOf st ds fun xs => (∃ ls : List (List Nat), xs = ls.map D.str ∧ ls.length < 64 ∧ Q (.lst ((srt ls).map D.str)) st) ∨ ∃ ns : List Int, xs = ns.map D.int ∧ Q (.lst ((ns.mergeSort (· ≤ ·)).map D.int)) st
theorem vtx_map (ls : List (List Nat)) : vtx ls = (ls.map tx).map V.str := vtx_eq ls
theorem sortI_unique {ns ms : List Int} (h : ms.Perm ns) (p : ms.Pairwise (· ≤ ·)) : ms = ns.mergeSort (· ≤ ·) := by
  refine List.Perm.eq_of_pairwise (le := fun a b => a ≤ b) (fun a b _ _ h1 h2 => Int.le_antisymm h1 h2) p ?_ (h.trans (List.mergeSort_perm _ _).symm)
  have := List.pairwise_mergeSort (le := fun a b : Int => decide (a ≤ b)) (fun a b c h1 h2 => by simp at *; omega) (fun a b => by simp; omega) ns
  exact this.imp fun h => by simpa using h
theorem dc_sorted (hK : X.K = K := by rfl) : CallR X (.builtin "sorted") (lC K cSorted) := by
  subst hK
  refine CallR_imp (CallR_or cr_sortedS cr_sortedI) fun xs H Q hh => ?_
  obtain ⟨μ, st, ds, Qd, r, s, hm, k⟩ := hh
  obtain ⟨p, ws, xs, rfl, h4, h5, q⟩ := lstOf_at r s hm
  rcases q with ⟨ls, rfl, hl, q⟩ | ⟨ns, rfl, q⟩
  · rw [h5.strs, vtx_map] at h4
    refine .inl ⟨p, ls.map tx, rfl, h4, by rw [List.length_map]; exact hl, fun ys t hp hs ht => ?_⟩
    rw [sorted_is hp hs, ← vtx_map]
    exact k.lst q (.ofStrs _) s ht
  · rw [h5.ints] at h4
    refine .inr ⟨p, ns, rfl, h4, fun ns' t hp hs ht => ?_⟩
    rw [sortI_unique hp hs]
    exact k.lst q (.ofInts _) s ht
/-! tuple(..), list(..), and the list as a cell -/
def cTuple : MC := fun st ds Q => match ds with
  | [d] => match dr st d with
    | .lst xs => Q (.tup xs) st
    | .tup xs => Q d st
    | _ => False
  | _ => False
theorem dc_tuple (hK : X.K = K := by rfl) : CallR X (.type "tuple") (lC K cTuple) := by
  subst hK
  refine CallR_imp call_tuple_of fun xs H Q hh => ?_
  obtain ⟨μ, st, ds, Qd, r, s, hm, k⟩ := hh
  unfold cTuple at hm
  split at hm
  · obtain ⟨v, rfl, rd⟩ := r.one
    split at hm
    · rename_i e
      obtain ⟨p, vs, rfl, h4, h5⟩ := rd.lstAt s e
      exact ⟨p, vs, rfl, .inl ⟨h4, fun t ht => k.tup hm h5 s ht⟩⟩
    · rename_i e
      obtain ⟨p, vs, rfl, h4, h5⟩ := rd.tupAt s e
      exact ⟨p, vs, rfl, .inr ⟨h4, k.at hm rd s⟩⟩
    · exact hm.elim
  · exact hm.elim
def listOf (st : Store) (ds : List D) (P : List D → Prop) : Prop := match ds with
  | [d] => match dr st d with
    | .lst xs => P xs
    | .tup xs => P xs
    | .str l => l.length ≤ 1000 ∧ P (l.map fun c => .str [c])
    | _ => False
  | _ => False
def cList : MC := fun st ds Q => listOf st ds fun xs => Q (.lst xs) st
def cListC : MC := fun st ds Q => listOf st ds fun xs => Q (.cel st.length) (st ++ [.lst xs])
theorem RpL.signs {H : Hp} {μ : Mu} (l : List Nat) : RpL K H μ (l.map fun c => .str [c]) (vsg l) := by
  have := RpL.ofStrs (K := K) (H := H) (μ := μ) (l.map fun c => [c])
  rw [List.map_map] at this
  have e : vtx (l.map fun c => [c]) = vsg l := by unfold vtx vsg; rw [List.map_map]; rfl
  rw [e] at this
  exact this
theorem list_of {m : MC} (hc : X.calm = true) (h : ∀ st ds Qd, m st ds Qd → listOf st ds fun xs => ∀ H μ vs p Q, Cont X.K H μ Qd Q → RpL X.K H μ xs vs → RpS X.K H μ st → H p = none → Q (.ref p) (upd H p (.lst vs))) : CallR X (.type "list") (lC X.K m) := by
  refine CallR_imp (CallR_or call_list_of (call_list_tx hc)) fun xs H Q hh => ?_
  obtain ⟨μ, st, ds, Qd, r, s, hm0, k⟩ := hh
  have hm := h _ _ _ hm0
  clear hm0
  unfold listOf at hm
  split at hm
  · obtain ⟨v, rfl, rd⟩ := r.one
    split at hm
    · rename_i e
      obtain ⟨p, vs, rfl, h4, h5⟩ := rd.lstAt s e
      exact .inl ⟨p, vs, rfl, .inl h4, fun t ht => hm _ _ _ _ _ k h5 s ht⟩
    · rename_i e
      obtain ⟨p, vs, rfl, h4, h5⟩ := rd.tupAt s e
      exact .inl ⟨p, vs, rfl, .inr h4, fun t ht => hm _ _ _ _ _ k h5 s ht⟩
    · rename_i l e
      obtain rfl := dr_str e
      simp only [Rp] at rd; subst rd
      exact .inr ⟨l, rfl, hm.1, fun t ht => hm.2 _ _ _ _ _ k (.signs l) s ht⟩
    · exact hm.elim
  · exact hm.elim
theorem listOf_mono {st : Store} {ds : List D} {P P' : List D → Prop} (h : listOf st ds P) (i : ∀ xs, P xs → P' xs) : listOf st ds P' := by
  unfold listOf at h ⊢
  split at h
  · split at h
    · exact i _ h
    · exact i _ h
    · exact ⟨h.1, i _ h.2⟩
    · exact h.elim
  · exact h.elim
theorem dc_list (hc : X.calm = true) (hK : X.K = K := by rfl) : CallR X (.type "list") (lC K cList) := by
  subst hK
  exact list_of hc fun st ds Qd hm => listOf_mono hm fun xs q H μ vs p Q k r s hp => k.lst q r s hp
theorem dc_listC (hc : X.calm = true) (hK : X.K = K := by rfl) : CallR X (.type "list") (lC K cListC) := by
  subst hK
  exact list_of hc fun st ds Qd hm => listOf_mono hm fun xs q H μ vs p Q k r s hp => k.cellLst q r s hp
/-! abs, int, divmod -/
def cAbs : MC := fun st ds Q => match ds with
  | [.int i] => Q (.int (if i < 0 then -i else i)) st
  | _ => False
theorem dc_abs : CallR X (.builtin "abs") (lC K cAbs) := by
  refine CallR_imp call_abs fun xs H Q hh => ?_
  obtain ⟨μ, st, ds, Qd, r, s, hm, k⟩ := hh
  unfold cAbs at hm
  split at hm
  · obtain ⟨v, rfl, rd⟩ := r.one
    simp only [Rp] at rd
    exact ⟨_, by rw [rd], k.at hm (.int _ _ _) s⟩
  · exact hm.elim
def cInt : MC := fun st ds Q => match ds with
  | [.int i] => Q (.int i) st
  | [.bl b] => Q (.int (if b then 1 else 0)) st
  | _ => False
theorem dc_int : CallR X (.type "int") (lC K cInt) := by
  refine CallR_imp call_int1 fun xs H Q hh => ?_
  obtain ⟨μ, st, ds, Qd, r, s, hm, k⟩ := hh
  unfold cInt at hm
  split at hm
  · obtain ⟨v, rfl, rd⟩ := r.one
    simp only [Rp] at rd
    exact .inl ⟨_, by rw [rd], k.at hm (.int _ _ _) s⟩
  · obtain ⟨v, rfl, rd⟩ := r.one
    simp only [Rp] at rd
    exact .inr ⟨_, by rw [rd], k.at hm (.int _ _ _) s⟩
  · exact hm.elim
def cDivmod : MC := fun st ds Q => match ds with
  | [.int i, .int j] => CDiv i j ∧ Q (.tup [.int (i / j), .int (i % j)]) st
  | _ => False
theorem dc_divmod : CallR X (.builtin "divmod") (lC K cDivmod) := by
  refine CallR_imp call_divmod fun xs H Q hh => ?_
  obtain ⟨μ, st, ds, Qd, r, s, hm, k⟩ := hh
  unfold cDivmod at hm
  split at hm
  · obtain ⟨v, w, rfl, r1, r2⟩ := r.two
    simp only [Rp] at r1 r2
    exact ⟨_, _, by rw [r1, r2], hm.1, fun p hp => k.tup hm.2 (.cons (.int _ _ _) (.cons (.int _ _ _) .nil)) s hp⟩
  · exact hm.elim
/-! isinstance: a built-in class -/
def tyN : D → Option String
  | .non => some "NoneType"
  | .int _ => some "int"
  | .bl _ => some "bool"
  | .str _ => some "str"
  | .lst _ => some "list"
  | .tup _ => some "tuple"
  | .dic _ => some "dict"
  | _ => none
def isaB (n t : String) : Bool := n == t || (n == "bool" && t == "int")
def tyNames : List String := ["NoneType", "int", "bool", "str", "list", "tuple", "dict"]
def mIsi (t : String) (f : ME) : ME := fun ρ st Q => f ρ st fun d st1 => match tyN (dr st1 d) with
  | some n => Q (.bl (isaB n t)) st1
  | none => False
theorem Rp.tyX {H : Hp} {μ : Mu} {st : Store} {d : D} {v : V} {n : String} (r : Rp K H μ d v) (s : RpS K H μ st) (h : tyN (dr st d) = some n) : TyX K H v (.type n) ∧ n ∈ tyNames := by
  cases d with
  | non => simp only [Rp] at r; subst r; cases h; exact ⟨.base .non, by decide⟩
  | bl b => simp only [Rp] at r; subst r; cases h; exact ⟨.base (.bl _), by decide⟩
  | int b => simp only [Rp] at r; subst r; cases h; exact ⟨.base (.int _), by decide⟩
  | str b => simp only [Rp] at r; subst r; cases h; exact ⟨.base (.str _), by decide⟩
  | lst b =>
    simp only [Rp] at r; cases h
    obtain ⟨a, vs, rfl, _, h1, _⟩ := r
    exact ⟨.base (.lst h1), by decide⟩
  | frl b =>
    simp only [Rp] at r; cases h
    obtain ⟨a, vs, rfl, h1, _⟩ := r
    refine ⟨?_, by decide⟩
    rcases h1 with ⟨_, h1 | ⟨ob, h1⟩⟩ | ⟨ob, its, m, h1, h2, _⟩
    · exact .base (.lst h1)
    · exact .base (.frz h1)
    · exact .kList h1 h2
  | tup b =>
    simp only [Rp] at r; cases h
    obtain ⟨a, vs, rfl, h1, _⟩ := r
    refine ⟨?_, by decide⟩
    rcases h1 with ⟨_, h1 | ⟨ob, h1⟩⟩ | ⟨ob, its, m, h1, h2, _⟩
    · exact .base (.tup h1)
    · exact .fTuple h1
    · exact .kTuple h1 h2
  | dic b =>
    simp only [Rp] at r; cases h
    obtain ⟨a, vs, rfl, _, h1 | ⟨ob, h1⟩, _⟩ := r
    · exact ⟨.base (.dK h1), by decide⟩
    · exact ⟨.fDict h1, by decide⟩
  | cel m =>
    simp only [Rp] at r
    obtain ⟨a, rfl, h1⟩ := r
    simp only [dr] at h
    split at h <;> rename_i q <;> simp only [tyN] at h <;> cases h
    · obtain ⟨vs, g1, _⟩ := s.at_ m a _ h1 q
      exact ⟨.base (.lst g1), by decide⟩
    · obtain ⟨vs, g1, _⟩ := s.at_ m a _ h1 q
      exact ⟨.base (.dK g1), by decide⟩
  | dit b => cases h
  | ins C fs => cases h
  | raw x => cases h
theorem de_isi {t : String} {tn : Str} {p p2 : Pos} (hm : X.mg "isinstance" = none) (he : DE K X e f) (ht : X.mg tn = none) (hK : X.K = K := by rfl) (hv2 : bootBuiltins tn = some (.type t) := by decide +kernel) (hT : (tyNames.all fun n => decide (kitB n t = some (isaB n t))) = true := by decide +kernel)
    (hg : Gl X "isinstance" := by rfl) (hg2 : Gl X tn := by rfl) (hn2 : tn ≠ "__name__" := by decide) (hd2 : (tn == ("__debug__" : Str)) = false := by decide)
    (hs : starEach (e :: [.Name tn p2]) X.env = (false, eval e X.env) :: starEach [.Name tn p2] X.env := by rfl) (hs2 : starEach [.Name tn p2] X.env = (false, eval (.Name tn p2) X.env) :: starEach [] X.env := by rfl) (hpl : (backTo pos (starEach [.Name tn p2] X.env)).any (·.1) = false := by rfl) :
    DE K X (.Call (.Name "isinstance" p) [e, .Name tn p2] [] pos) (mIsi t f) := by
  subst hK
  refine PE_imp (pe_callB call_isi hg hm (by decide +kernel) (pa_cons he (pa_cons (pe_bltn (v := .ty t) hg2 ht hv2 rfl hn2 hd2) pa_nil hs2) hs) (by decide) (by decide) hs hpl) fun σ H Q ⟨μ, ρ, st, Qd, hee, s, hm, k⟩ => ?_
  refine ⟨μ, ρ, st, _, hee, s, hm, fun d st1 v μ1 H1 q1 r1 s1 g1 => ?_⟩
  split at q1
  · rename_i n hn
    obtain ⟨tx, hmem⟩ := r1.tyX s1 hn
    have := of_decide_eq_true (List.all_eq_true.mp hT n hmem)
    exact ⟨v, .ty t, .type n, .type t, _, rfl, .ty t, tx, kit_ty this, (k.to g1).at q1 (.bl _ _ _) s1⟩
  · exact q1.elim
/-! "".join(..) -/
def joinM (sep : List Nat) : List (List Nat) → List Nat := TL.joinL sep
def isS (d : D) (Q : List Nat → Prop) : Prop := match d with
  | .str l => Q l
  | _ => False
theorem Rp.str_of {H : Hp} {μ : Mu} {d : D} {v : V} {Q : List Nat → Prop} (r : Rp K H μ d v) (h : isS d Q) : ∃ i, d = .str i ∧ v = .str (tx i) ∧ Q i := by
  cases d <;> simp only [isS] at h
  rename_i b
  simp only [Rp] at r
  exact ⟨b, rfl, r, h⟩
def joinK (sep : List Nat) (st : Store) (y : D) (Q : QD) : Prop := ∃ ls : List (List Nat), (dr st y = .lst (ls.map D.str) ∨ dr st y = .tup (ls.map D.str)) ∧ (ls.map List.length).sum + ls.length * sep.length ≤ 1000000 ∧ Q (.str (joinM sep ls)) st
def mJoin (f g : ME) : ME := fun ρ st Q => f ρ st fun x st1 => isS x fun sep => g ρ st1 fun y st2 => joinK sep st2 y Q
theorem tx_joinM (sep : List Nat) (ls : List (List Nat)) : Txt.join (tx sep) (ls.map tx) = tx (joinM sep ls) := by
  rw [TL.join_eq]
  apply TL.ext_tl
  rw [TL.tl_join]
  have e1 : (TL.tl (tx sep)) = sep := tx_toList sep
  have e2 : (ls.map tx).map TL.tl = ls := by
    rw [List.map_map]
    have : (TL.tl ∘ tx) = id := funext fun l => tx_toList l
    rw [this, List.map_id]
  rw [e1, e2]
  exact (tx_toList _).symm
theorem len_tx (ls : List (List Nat)) : (ls.map tx).map (·.length) = ls.map List.length := by
  rw [List.map_map]
  exact List.map_congr_left fun l _ => tx_length l
theorem de_join {apos : Pos} (ho : DE K X o f) (he : DE K X e g) (hK : X.K = K := by rfl) (hs : starEach [e] X.env = [(false, eval e X.env)] := by rfl) (hbase : attributeBase o "join" X.env (eval o X.env) = eval o X.env := by rfl) (hline : (apos.endLine == pos.line) = true := by rfl) :
    DE K X (.Call (.Attribute o "join" apos) [e] [] pos) (mJoin f g) := by
  subst hK
  refine PE_imp (pe_join ho he hs hbase hline) fun σ H Q ⟨μ, ρ, st, Qd, hee, s, hm, k⟩ => ?_
  refine ⟨μ, ρ, st, _, hee, s, hm, fun d st1 v μ1 H1 q1 r1 s1 g1 => ?_⟩
  obtain ⟨sep, rfl, rfl, q1⟩ := r1.str_of q1
  refine ⟨⟨_, rfl⟩, μ1, ρ, st1, _, hee.go g1, s1, q1, fun y st2 w μ2 H2 q2 r2 s2 g2 => ?_⟩
  obtain ⟨ls, h1, h2, q⟩ := q2
  have fin : Q (.str (Txt.join (tx sep) (ls.map tx))) H2 := by
    rw [tx_joinM]
    exact (k.to (g1.trans g2)).at q (.str _ _ _) s2
  have hz : ((ls.map tx).map (·.length)).sum + (ls.map tx).length * (tx sep).length ≤ 16777216 := by
    rw [len_tx, List.length_map, tx_length]; omega
  rcases h1 with h1 | h1
  · obtain ⟨p, vs, rfl, h4, h5⟩ := r2.lstAt s2 h1
    rw [h5.strs, vtx_map] at h4
    exact ⟨tx sep, p, ls.map tx, rfl, rfl, .inl h4, hz, fin⟩
  · obtain ⟨p, vs, rfl, h4, h5⟩ := r2.tupAt s2 h1
    rw [h5.strs, vtx_map] at h4
    exact ⟨tx sep, p, ls.map tx, rfl, rfl, .inr h4, hz, fin⟩
/-! ### slices -/
abbrev MO' := Env → Store → (Option Int → Store → Prop) → Prop
def lO' (K : PySem.W.Frag) (m : MO') : TO := fun σ H Q => ∃ μ ρ st Qd, RpE K H μ ρ σ ∧ RpS K H μ st ∧ m ρ st Qd ∧ ∀ o st' μ' H', Qd o st' → RpS K H' μ' st' → Go H μ H' μ' → Q o H'
theorem PO_imp {eo : Option Expr} {t t' : TO} (h : PO X eo t) (j : ∀ σ H Q, t' σ H Q → t σ H Q) : PO X eo t' := ⟨fun pins s σ H Q I q => h.run pins s σ H Q I (j σ H Q q)⟩
def pNo : MO' := fun _ st Q => Q none st
def pSo (f : ME) : MO' := fun ρ st Q => f ρ st fun d st1 => isI d fun j => Q (some j) st1
theorem dp_no : PO X none (lO' K pNo) := PO_imp po_none fun σ H Q ⟨μ, ρ, st, Qd, he, s, hm, k⟩ => k _ _ _ _ hm s (.refl _ _)
theorem dp_so (he : DE K X e f) : PO X (some e) (lO' K (pSo f)) := PO_imp (po_some he) fun σ H Q ⟨μ, ρ, st, Qd, he, s, hm, k⟩ =>
  ⟨μ, ρ, st, _, he, s, hm, fun d st1 v μ1 H1 q1 r1 s1 g1 => by
    obtain ⟨j, rfl, rfl, q⟩ := r1.int_of q1
    exact ⟨j, rfl, k _ _ _ _ q s1 g1⟩⟩
def cutD {α : Type} (xs : List α) (lo hi : Option Int) : List α := (xs.drop (HT.sIx xs.length 0 lo)).take (HT.sIx xs.length xs.length hi - HT.sIx xs.length 0 lo)
def slD (st : Store) (d : D) (lo hi : Option Int) (Q : QD) : Prop := match dr st d with
  | .str l => l.length ≤ 1000000 ∧ Q (.str (cutD l lo hi)) st
  | .lst xs => Q (.lst (cutD xs lo hi)) st
  | .tup xs => Q (.tup (cutD xs lo hi)) st
  | _ => False
def mSl (f : ME) (l u : MO') : ME := fun ρ st Q => f ρ st fun d st1 => l ρ st1 fun lo st2 => u ρ st2 fun hi st3 => slD st3 d lo hi Q
theorem RpL.cutD {H : Hp} {μ : Mu} {ds : List D} {vs : List V} (r : RpL K H μ ds vs) (lo hi : Option Int) : RpL K H μ (DL.cutD ds lo hi) (L2.cutV vs lo hi) := by
  unfold DL.cutD L2.cutV
  rw [r.length]
  exact (r.drop _).take _
theorem cutS_tx (l : List Nat) (lo hi : Option Int) : cutS (tx l) lo hi = tx (cutD l lo hi) := by
  unfold cutS DL.cutD
  rw [tx_toList, tx_length]
  rfl
theorem SlR_or {r r' : V → Option Int → Option Int → Hp → VK → Prop} (h : SlR X r) (h' : SlR X r') : SlR X (fun x lo hi H Q => r x lo hi H Q ∨ r' x lo hi H Q) := by
  intro pins s σ H x v vl vu lo hi sl Q I rx hs pl pu q
  rcases q with q | q
  · exact h pins s σ H x v vl vu lo hi sl Q I rx hs pl pu q
  · exact h' pins s σ H x v vl vu lo hi sl Q I rx hs pl pu q
theorem de_sl {p2 : Pos} {lo hi : Option Expr} {l u : MO'} (he : DE K X e f) (hl : PO X lo (lO' K l)) (hu : PO X hi (lO' K u)) (hK : X.K = K := by rfl) : DE K X (.Subscript e (.Slice lo hi none p2) pos) (mSl f l u) := by
  subst hK
  refine PE_imp (pe_slice (SlR_or sl_str (SlR_or sl_list sl_tupA)) he hl hu) fun σ H Q ⟨μ, ρ, st, Qd, hee, s, hm, k⟩ => ?_
  refine ⟨μ, ρ, st, _, hee, s, hm, fun d st1 v μ1 H1 q1 r1 s1 g1 => ⟨μ1, ρ, st1, _, hee.go g1, s1, q1, fun lo st2 μ2 H2 q2 s2 g2 => ⟨μ2, ρ, st2, _, (hee.go g1).go g2, s2, q2, fun hi st3 μ3 H3 q3 s3 g3 => ?_⟩⟩⟩
  have r3 := (r1.go g2).go g3
  have kk := k.to ((g1.trans g2).trans g3)
  unfold slD at q3
  split at q3
  · rename_i l e
    obtain rfl := dr_str e
    simp only [Rp] at r3; subst r3
    refine .inl ⟨_, rfl, by rw [tx_length]; exact sz5 q3.1, ?_⟩
    rw [cutS_tx]
    exact kk.at q3.2 (.str _ _ _) s3
  · rename_i xs e
    obtain ⟨p, vs, rfl, h4, h5⟩ := r3.lstAt s3 e
    exact .inr (.inl ⟨p, vs, rfl, h4, fun t ht => kk.lst q3 (h5.cutD lo hi) s3 ht⟩)
  · rename_i xs e
    obtain ⟨p, vs, rfl, h4, h5⟩ := r3.tupAt s3 e
    refine .inr (.inr ⟨p, vs, rfl, h4, fun hw => ?_, fun hw t ht => kk.tup q3 (h5.cutD lo hi) s3 ht⟩)
    have ed : dr st3 d = d := by
      cases d <;> simp only [dr] at e ⊢ <;> (try (cases e))
      split at e <;> cases e
    rw [ed] at e
    subst e
    refine kk.at q3 ?_ s3
    have : DL.cutD xs lo hi = xs := by
      unfold DL.cutD
      rw [h5.length, hw.1, hw.2, List.drop_zero, Nat.sub_zero, List.take_of_length_le (by rw [h5.length]; exact Nat.le_refl _)]
    rw [this]
    exact r3
  · exact q3.elim
def mBack (f : ME) : ME := fun ρ st Q => f ρ st fun d st1 => isS d fun l => l.length ≤ 1000 ∧ Q (.str l.reverse) st1
theorem de_back {k : Nat} {p1 p2 p3 : Pos} (he : DE K X e f) : DE K X (.Subscript e (.Slice none none (some (.UnaryOp .USub (.Constant (.int 1) k p1) p2)) p3) pos) (mBack f) := PE_imp (pe_back he) fun σ H Q ⟨μ, ρ, st, Qd, he, s, hm, k⟩ =>
  ⟨μ, ρ, st, _, he, s, hm, fun d st1 v μ1 H1 q1 r1 s1 g1 => by
    obtain ⟨l, rfl, rfl, q⟩ := r1.str_of q1
    exact ⟨l, rfl, q.1, (k.to g1).at q.2 (.str _ _ _) s1⟩⟩
end
end DL
set_option Elab.async false
set_option linter.all false
set_option maxRecDepth 100000
set_option maxHeartbeats 2000000
namespace DL
open PySem PySem.Spec PyProof.Rows L2 Nf
/-! ### dict comprehensions -/
theorem putD_mem (k : DK) (d : D) : ∀ (kvs : List (DK × D)) (j : DK), j ∈ (putD k d kvs).map Prod.fst ↔ j = k ∨ j ∈ kvs.map Prod.fst
  | [], j => by simp [putD]
  | (i, e) :: r, j => by
    unfold putD
    split
    · rename_i h; subst h; simp
    · simp only [List.map_cons, List.mem_cons, putD_mem k d r j]
      constructor
      · rintro (h | h | h)
        · exact .inr (.inl h)
        · exact .inl h
        · exact .inr (.inr h)
      · rintro (h | h | h)
        · exact .inr (.inl h)
        · exact .inl h
        · exact .inr (.inr h)
theorem putD_nd {k : DK} {d : D} : ∀ {kvs : List (DK × D)}, NdK kvs → NdK (putD k d kvs)
  | [], _ => by simp [putD, NdK]
  | (i, e) :: r, h => by
    unfold NdK at h ⊢
    simp only [List.map_cons, List.nodup_cons] at h
    unfold putD
    split
    · rename_i z; subst z
      simp only [List.map_cons, List.nodup_cons]; exact h
    · rename_i z
      simp only [List.map_cons, List.nodup_cons]
      refine ⟨fun q => ?_, putD_nd h.2⟩
      rcases (putD_mem k d r i).mp q with q | q
      · exact z q
      · exact h.1 q
theorem putD_len (k : DK) (d : D) : ∀ kvs : List (DK × D), (putD k d kvs).length ≤ kvs.length + 1
  | [] => by simp [putD]
  | (i, e) :: r => by
    unfold putD
    split
    · simp
    · simp only [List.length_cons]
      have := putD_len k d r
      omega
theorem lookD_put (k j : DK) (d : D) : ∀ kvs : List (DK × D), lookD j (putD k d kvs) = if j = k then some d else lookD j kvs
  | [] => by
    unfold putD lookD lookD
    by_cases h : k = j
    · subst h; simp
    · have h' : ¬ j = k := fun z => h z.symm
      simp [h, h']
  | (i, e) :: r => by
    unfold putD
    by_cases h : i = k
    · subst h
      rw [if_pos rfl]
      unfold lookD
      by_cases z : i = j
      · subst z; simp
      · have z' : ¬ j = i := fun q => z q.symm
        simp [z, z']
    · rw [if_neg h]
      unfold lookD
      rw [lookD_put k j d r]
      by_cases z : i = j
      · subst z; simp [h]
      · simp [z]
theorem RpK.length {K : PySem.W.Frag} {H : Hp} {μ : Mu} : ∀ {ds : List (DK × D)} {vs : List (Key × V)}, RpK K H μ ds vs → ds.length = vs.length
  | [], _, h => by simp only [RpK] at h; rw [h]; rfl
  | p :: ds, _, h => by
    simp only [RpK] at h
    obtain ⟨v, r, rfl, _, h2⟩ := h
    rw [List.length_cons, List.length_cons, RpK.length h2]
def dcD (g : MG) (t : MT) (fk fv : ME) (G : Store → Prop) (ρ : Env) : List D → Store → List (DK × D) → (List (DK × D) → Store → Prop) → Prop
  | [], st, acc, Q => G st ∧ Q acc st
  | x :: xs, st, acc, Q => G st ∧ g x ρ st fun ρ1 st1 => t ρ1 st1 fun b st2 => if b = true then fk ρ1 st2 fun kd st3 => fv ρ1 st3 fun d st4 => keyD kd fun k => dcD g t fk fv G ρ xs st4 (putD k d acc) Q else dcD g t fk fv G ρ xs st2 acc Q
def mDc (w : MI) (g : MG) (t : MT) (fk fv : ME) (vs : List Nat) : ME := fun ρ st Q => w ρ st fun xs G st1 => xs.length ≤ 1000000 ∧ dcD g t fk fv G (wipeD ρ vs) xs st1 [] fun kvs st2 => Q (.dic kvs) st2
def mDcC (w : MI) (g : MG) (t : MT) (fk fv : ME) (vs : List Nat) : ME := fun ρ st Q => w ρ st fun xs G st1 => xs.length ≤ 1000000 ∧ dcD g t fk fv G (wipeD ρ vs) xs st1 [] fun kvs st2 => Q (.cel st2.length) (st2 ++ [.dic kvs])
section
variable {K : PySem.W.Frag} {X : Cx}
def FinK (K : PySem.W.Frag) (fin : List (DK × D) → Store → QD → Prop) : Prop := ∀ μ H ys vs p st Qd Q μ0 H0, RpS K H (μ.hide p) st → RpK K H (μ.hide p) ys vs → H p = some (.dK vs) → μ.off p → H0 p = none → Go H0 μ0 H μ → fin ys st Qd → Cont K H0 μ0 Qd Q → Q (.ref p) H
theorem fin_dic : FinK K fun ys st Qd => Qd (.dic ys) st := fun μ H ys vs p st Qd Q μ0 H0 s r hp hn h0 g q k =>
  k _ _ _ μ H q (by simp only [Rp]; exact ⟨p, vs, rfl, hn, .inl hp, r.tr .show⟩) s.show g
theorem RpS.asCell {H : Hp} {μ : Mu} {st : Store} {p : Addr} {c : Cell} (s : RpS K H (μ.hide p) st) (hn : μ.off p) (hc : RpC K H (μ.add p) p c) : RpS K H (μ.add p) (st ++ [c]) := by
  have tr : Tr H (μ.hide p) H (μ.add p) := .cell
  have len : μ.c.length = st.length := s.len
  refine ⟨by simp [Mu.add, len], ?_, fun n a d h1 h2 => ?_, fun a ha => ?_, s.tab⟩
  · show (μ.c ++ [p]).Nodup
    rw [List.nodup_append]
    refine ⟨s.nd, by simp, fun a ha b hb z => ?_⟩
    rw [List.mem_singleton.mp hb] at z
    exact hn.1 (by rw [← z]; exact ha)
  · have h1 : (μ.c ++ [p])[n]? = some a := h1
    by_cases hl : n < μ.c.length
    · rw [List.getElem?_append_left hl] at h1
      rw [List.getElem?_append_left (by rw [← len]; exact hl)] at h2
      exact (s.at_ n a d h1 h2).tr tr rfl
    · have e : n = μ.c.length := by
        have := (List.getElem?_eq_some_iff.mp h1).1
        rw [List.length_append, List.length_singleton] at this
        omega
      subst e
      rw [List.getElem?_append_right (Nat.le_refl _), Nat.sub_self] at h1
      rw [len, List.getElem?_append_right (Nat.le_refl _), Nat.sub_self] at h2
      cases h1; cases h2
      exact hc
  · obtain ⟨q, o, z⟩ := s.hid a (List.mem_cons_of_mem _ ha)
    refine ⟨fun w => ?_, o, z⟩
    rcases List.mem_append.mp w with w | w
    · exact q w
    · exact hn.2 (by rw [← List.mem_singleton.mp w]; exact ha)
theorem Go.asCell {H0 H : Hp} {μ0 μ : Mu} {p : Addr} (g : Go H0 μ0 H μ) (h : H0 p = none) : Go H0 μ0 H (μ.add p) :=
  ⟨g.pre.trans (List.prefix_append _ _), g.hid, g.tab, fun a o ha n t => by
    obtain ⟨n1, h1⟩ := g.keep a o ha n t
    refine ⟨fun w => ?_, h1⟩
    rcases List.mem_append.mp w with w | w
    · exact n1 w
    · rw [List.mem_singleton.mp w, h] at ha; cases ha⟩
theorem fin_lstC : Fin K fun ys st Qd => Qd (.cel st.length) (st ++ [.lst ys]) := fun μ H ys vs p st Qd Q μ0 H0 s r hp hn h0 g q k => by
  have len : μ.c.length = st.length := s.len
  refine k _ _ _ (μ.add p) H q ?_ (s.asCell hn ⟨vs, hp, r.tr .cell⟩) (g.asCell h0)
  simp only [Rp]
  exact ⟨p, rfl, by show (μ.c ++ [p])[_]? = _; rw [← len, List.getElem?_append_right (Nat.le_refl _), Nat.sub_self]; rfl⟩
theorem fin_dicC : FinK K fun ys st Qd => Qd (.cel st.length) (st ++ [.dic ys]) := fun μ H ys vs p st Qd Q μ0 H0 s r hp hn h0 g q k => by
  have len : μ.c.length = st.length := s.len
  refine k _ _ _ (μ.add p) H q ?_ (s.asCell hn ⟨vs, hp, r.tr .cell⟩) (g.asCell h0)
  simp only [Rp]
  exact ⟨p, rfl, by show (μ.c ++ [p])[_]? = _; rw [← len, List.getElem?_append_right (Nat.le_refl _), Nat.sub_self]; rfl⟩
theorem RpK.set' {H : Hp} {μ : Mu} {k : DK} {d : D} {v : V} (q : Rp K H μ d v) {ds : List (DK × D)} {vs : List (Key × V)} (r : RpK K H μ ds vs) (nd : NdK ds) : RpK K H μ (putD k d ds) (putK vs (kk k) v) := RpK.put q r nd
variable {kx vx elt tg iter : Expr} {ifs : List Expr} {scope : Scope} {own : List (Str × Nat)} {pos : Pos} {w : MI} {g : MG} {t : MT} {f fk fv : ME} {T : TG}
theorem dc_lift {g : MG} {tg : TG} {t : MT} {w : MI} {vs : List Nat} {σ : L2.St} {H : Hp} {Qv : VK}
    (hg : ∀ v σ H Q, lG K g v (L2.wipe σ vs) H Q → tg v (L2.wipe σ vs) H Q) (hwv : TgOk tg vs)
    {fin : List (DK × D) → Store → QD → Prop} (hfin : FinK K fin)
    (h : lE K (fun ρ st Qd => w ρ st fun xs G st1 => xs.length ≤ 1000000 ∧ dcD g t fk fv G (wipeD ρ vs) xs st1 [] fun ys st2 => fin ys st2 Qd) σ H Qv) : tDc (lI K w) tg (lT K t) (lE K fk) (lE K fv) vs σ H Qv := by
  obtain ⟨μ, ρ, st, Qd, he, hs, hm, k⟩ := h
  refine ⟨μ, ρ, st, _, he, hs, hm, fun xs G st1 J μ1 H1 q1 wk s1 g1 => ?_⟩
  obtain ⟨hlen, q1⟩ := q1
  intro D hD
  have hDμ := s1.off hD
  refine ⟨fun i n H' => n = xs.length - i ∧ i ≤ xs.length ∧ ∃ ys μ' st' wvs, ys.length ≤ i ∧ NdK ys ∧ RpS K H' μ' st' ∧ Go H1 μ1 H' ⟨μ'.c, μ1.h, μ1.t⟩ ∧ (μ'.h = D :: μ1.h ∧ μ'.t = μ1.t) ∧ H' D = some (.dK wvs) ∧ RpK K H' μ' ys wvs ∧ dcD g t fk fv G (wipeD ρ vs) (xs.drop i) st' ys fun zs st2 => fin zs st2 Qd,
    ⟨xs.length, by simp, Nat.zero_le _, [], μ1.hide D, st1, [], Nat.le_refl _, List.nodup_nil, s1.hide hD, (.new hD : Go H1 μ1 _ ⟨μ1.c, μ1.h, μ1.t⟩), ⟨rfl, rfl⟩, upd_same, by simp only [RpK], by simpa using q1⟩, ?_⟩
  rintro i n H' ⟨rfl, hi, ys, μ', st', wvs, hys, hnd, s', g', eh, hD', r', f'⟩
  have nD' : D ∉ μ'.c := (s'.hid D (by rw [eh.1]; exact List.mem_cons_self)).1
  have trx : Tr H1 μ1 H' μ' := g'.hidTr hD eh
  by_cases hlt : i < xs.length
  · have hd : xs.drop i = xs[i] :: xs.drop (i + 1) := List.drop_eq_getElem_cons hlt
    rw [hd] at f'
    simp only [dcD] at f'
    obtain ⟨hG, f'⟩ := f'
    refine .inr ⟨wk.goes i H' μ' st' hlt trx s' hG, fun H2 => ∃ ys μ' st' wvs, ys.length ≤ i + 1 ∧ NdK ys ∧ RpS K H2 μ' st' ∧ Go H1 μ1 H2 ⟨μ'.c, μ1.h, μ1.t⟩ ∧ (μ'.h = D :: μ1.h ∧ μ'.t = μ1.t) ∧ H2 D = some (.dK wvs) ∧ RpK K H2 μ' ys wvs ∧ dcD g t fk fv G (wipeD ρ vs) (xs.drop (i + 1)) st' ys fun zs st2 => fin zs st2 Qd, fun H2 q => ⟨xs.length - (i + 1), by omega, rfl, hlt, q⟩, fun x H'' y => ?_⟩
    obtain ⟨sm, hx⟩ := wk.yields i x H' H'' μ' st' xs[i] (List.getElem?_eq_getElem hlt) trx s' hG y
    have gx : Go H' μ' H'' μ' := .sm sm
    have eρ : RpE K H'' μ' (wipeD ρ vs) (L2.wipe σ vs) := (((he.go g1).tr trx).go gx).wipe vs
    refine hwv x σ H'' _ (hg x σ H'' _ ⟨μ', wipeD ρ vs, st', xs[i], _, hx, eρ, s'.sm sm, f', fun ρ3 st3 σ3 μ3 H3 q3 e3 s3 g3 => ?_⟩)
    refine ⟨μ3, ρ3, st3, _, e3, s3, q3, fun b st4 μ4 H4 q4 s4 g4 => ?_⟩
    have gH4 : Go H' μ' H4 μ4 := (gx.trans g3).trans g4
    obtain ⟨nD4, hD4⟩ := gH4.keep D _ hD' nD' (fun _ z => by cases z)
    cases b with
    | true =>
      refine iteT ⟨μ4, ρ3, st4, _, e3.go g4, s4, by simpa using q4, fun yk st5 vk μ5 H5 q5 rk s5 g5 => ⟨μ5, ρ3, st5, _, (e3.go g4).go g5, s5, q5, fun y6 st6 v6 μ6 H6 q6 r6 s6 g6 => ?_⟩⟩
      obtain ⟨kd, ek, q6⟩ := (rk.go g6).key q6
      obtain ⟨nD6, hD6⟩ := (g5.trans g6).keep D _ hD4 nD4 (fun _ z => by cases z)
      have g16 : Go H' μ' H6 μ6 := (gH4.trans g5).trans g6
      have e6 : μ6.h = D :: μ1.h ∧ μ6.t = μ1.t := ⟨g16.hid.trans eh.1, g16.tab.trans eh.2⟩
      have eμ : μ6 = Mu.hide ⟨μ6.c, μ1.h, μ1.t⟩ D := Mu.hide_eq e6
      have r6' := r'.go g16
      refine ⟨wvs, kk kd, ek, hD6, ?_, putD kd y6 ys, μ6, st6, _, by have := putD_len kd y6 ys; omega, putD_nd hnd, ?_, g'.hidAt hD g16, e6, upd_same, ?_, q6⟩
      · have := r'.length
        rw [show sizeLine = 16777216 from sizeLine_eq]; omega
      · rw [eμ] at s6 ⊢; exact s6.at
      · have t6 : Tr H6 μ6 (upd H6 D (.dK (putK wvs (kk kd) v6))) μ6 := by rw [eμ]; exact .at
        exact (RpK.put r6 r6' hnd).tr t6
    | false =>
      exact iteF ⟨ys, μ4, st4, wvs, by omega, hnd, s4, g'.hidGo gH4, ⟨gH4.hid.trans eh.1, gH4.tab.trans eh.2⟩, hD4, r'.go gH4, by simpa using q4⟩
  · have e : i = xs.length := by omega
    subst e
    rw [List.drop_length] at f'
    simp only [dcD] at f'
    have eμ : μ' = Mu.hide ⟨μ'.c, μ1.h, μ1.t⟩ D := Mu.hide_eq eh
    refine .inl ⟨wk.stops H' μ' st' trx s' f'.1, ?_⟩
    exact hfin ⟨μ'.c, μ1.h, μ1.t⟩ H' ys wvs D st' Qd Qv μ1 H1 (by rw [eμ] at s'; exact s') (by rw [eμ] at r'; exact r') hD' ⟨nD', hDμ.2⟩ hD g' f'.2 (k.to g1)
theorem de_dc (hc : X.calm = true) (hN : X.N.Nodup) (hi : DI K X tg iter w) (ok : BlkOk X.N X.env.scope scope own) (hT : TOf K T g (own.map (·.2)))
    (hg : ∀ (s : Shared) (H : Hp) (C : Addr) (cl : List (Str × Addr)) (fp : List Addr), PG (X.blk s H scope (compEnvC scope cl C X.env) fp) tg T) (ht : ∀ (s : Shared) (H : Hp) (C : Addr) (cl : List (Str × Addr)) (fp : List Addr), PTs (X.blk s H scope (compEnvC scope cl C X.env) fp) ifs (lT K t))
    (hk : ∀ (s : Shared) (H : Hp) (C : Addr) (cl : List (Str × Addr)) (fp : List Addr), DE K (X.blk s H scope (compEnvC scope cl C X.env) fp) kx fk)
    (he : ∀ (s : Shared) (H : Hp) (C : Addr) (cl : List (Str × Addr)) (fp : List Addr), DE K (X.blk s H scope (compEnvC scope cl C X.env) fp) vx fv) (hs : ∀ x, foldedSetIterable iter X.env x = pure x := by intro _; rfl) :
    DE K X (.DictComp kx vx [⟨tg, iter, ifs, 0⟩] scope pos) (mDc w g t fk fv (own.map (·.2))) :=
  PE_imp (pe_dc hc hN hi ok hg ht hk he hs) fun σ H Q h => dc_lift (fun v σ H Q q => hT.of v _ H Q q) hT.tg fin_dic h
theorem ds_dc {i : Nat} {y : Str} {py : Pos} {spos : Pos} (hc : X.calm = true) (hN : X.N.Nodup) (hy : X.N[i]? = some y) (hyl : X.env.scope.names.lookup y = some .local)
    (hsw : swapsWith (.DictComp kx vx [⟨tg, iter, ifs, 0⟩] scope pos) (some (.Name y py)) spos.line X.env = pure true) (hi : DI K X tg iter w) (ok : BlkOk X.N X.env.scope scope own) (hT : TOf K T g (own.map (·.2)))
    (hg : ∀ (s : Shared) (H : Hp) (C : Addr) (cl : List (Str × Addr)) (fp : List Addr), PG (X.blk s H scope (compEnvC scope cl C X.env) fp) tg T) (ht : ∀ (s : Shared) (H : Hp) (C : Addr) (cl : List (Str × Addr)) (fp : List Addr), PTs (X.blk s H scope (compEnvC scope cl C X.env) fp) ifs (lT K t))
    (hk : ∀ (s : Shared) (H : Hp) (C : Addr) (cl : List (Str × Addr)) (fp : List Addr), DE K (X.blk s H scope (compEnvC scope cl C X.env) fp) kx fk)
    (he : ∀ (s : Shared) (H : Hp) (C : Addr) (cl : List (Str × Addr)) (fp : List Addr), DE K (X.blk s H scope (compEnvC scope cl C X.env) fp) vx fv) (hs : ∀ x, foldedSetIterable iter X.env x = pure x := by intro _; rfl) :
    DS K X (.Assign [.Name y py] (.DictComp kx vx [⟨tg, iter, ifs, 0⟩] scope pos) spos) (sSet i (mDc w g t fk fv (own.map (·.2)))) :=
  PS_imp (ps_setDc hc hN hy hyl hsw hi ok hg ht hk he hs) fun D σ H ⟨μ, ρ, st, De, he, hs, hm, k⟩ => by
    refine dc_lift (fun v σ H Q q => hT.of v _ H Q q) hT.tg fin_dic ⟨μ, ρ, st, fun d1 st1 => De.nx (ρ.set i (some d1)) st1, he, hs, hm, ?_⟩
    exact fun d1 st1 v1 μ1 H1 q1 r1 s1 g1 => k.nx _ _ _ _ _ q1 ((he.go g1).set r1 i) s1 g1
theorem ds_dcC {i : Nat} {y : Str} {py : Pos} {spos : Pos} (hc : X.calm = true) (hN : X.N.Nodup) (hy : X.N[i]? = some y) (hyl : X.env.scope.names.lookup y = some .local)
    (hsw : swapsWith (.DictComp kx vx [⟨tg, iter, ifs, 0⟩] scope pos) (some (.Name y py)) spos.line X.env = pure true) (hi : DI K X tg iter w) (ok : BlkOk X.N X.env.scope scope own) (hT : TOf K T g (own.map (·.2)))
    (hg : ∀ (s : Shared) (H : Hp) (C : Addr) (cl : List (Str × Addr)) (fp : List Addr), PG (X.blk s H scope (compEnvC scope cl C X.env) fp) tg T) (ht : ∀ (s : Shared) (H : Hp) (C : Addr) (cl : List (Str × Addr)) (fp : List Addr), PTs (X.blk s H scope (compEnvC scope cl C X.env) fp) ifs (lT K t))
    (hk : ∀ (s : Shared) (H : Hp) (C : Addr) (cl : List (Str × Addr)) (fp : List Addr), DE K (X.blk s H scope (compEnvC scope cl C X.env) fp) kx fk)
    (he : ∀ (s : Shared) (H : Hp) (C : Addr) (cl : List (Str × Addr)) (fp : List Addr), DE K (X.blk s H scope (compEnvC scope cl C X.env) fp) vx fv) (hs : ∀ x, foldedSetIterable iter X.env x = pure x := by intro _; rfl) :
    DS K X (.Assign [.Name y py] (.DictComp kx vx [⟨tg, iter, ifs, 0⟩] scope pos) spos) (sSet i (mDcC w g t fk fv (own.map (·.2)))) :=
  PS_imp (ps_setDc hc hN hy hyl hsw hi ok hg ht hk he hs) fun D σ H ⟨μ, ρ, st, De, he, hs, hm, k⟩ => by
    refine dc_lift (fun v σ H Q q => hT.of v _ H Q q) hT.tg fin_dicC ⟨μ, ρ, st, fun d1 st1 => De.nx (ρ.set i (some d1)) st1, he, hs, hm, ?_⟩
    exact fun d1 st1 v1 μ1 H1 q1 r1 s1 g1 => k.nx _ _ _ _ _ q1 ((he.go g1).set r1 i) s1 g1
end
end DL
set_option Elab.async false
set_option linter.all false
set_option maxRecDepth 100000
set_option maxHeartbeats 2000000
namespace DL
open PySem PySem.Spec PyProof.Rows L2 Nf
section
variable {K : PySem.W.Frag} {X : Cx}
/-! ### walks that lay a new tuple at each turn -/
theorem wk_new {H : Hp} {μ : Mu} {J : It} {rows : List (List D)} {G : Store → Prop}
    (goes : ∀ i H' μ' st, i < rows.length → Tr H μ H' μ' → RpS K H' μ' st → G st → J.go i H')
    (stops : ∀ H' μ' st, Tr H μ H' μ' → RpS K H' μ' st → G st → J.stop rows.length H')
    (yl : ∀ i x H' H'' μ' st row, rows[i]? = some row → Tr H μ H' μ' → RpS K H' μ' st → G st → J.yld i H' x H'' → ∃ T vs, x = .ref T ∧ H' T = none ∧ H'' = upd H' T (.tup vs) ∧ RpL K H' μ' row vs) : Wk K H μ J (rows.map D.tup) G where
  goes := fun i H' μ' st hi g s hG => goes i H' μ' st (by rw [List.length_map] at hi; exact hi) g s hG
  stops := fun H' μ' st g s hG => by rw [List.length_map]; exact stops H' μ' st g s hG
  yields := fun i x H' H'' μ' st d hd g s hG y => by
    rw [List.getElem?_map] at hd
    cases q : rows[i]? with
    | none => rw [q] at hd; cases hd
    | some row =>
      rw [q] at hd
      cases hd
      obtain ⟨T, vs, rfl, hT, rfl, r⟩ := yl i x H' H'' μ' st row q g s hG y
      refine ⟨.new hT, ?_⟩
      simp only [Rp]
      exact ⟨T, vs, rfl, .inl ⟨s.off hT, .inl upd_same⟩, r.go (.new hT)⟩
/-! enumerate -/
def enumD : Nat → List D → List (List D)
  | _, [] => []
  | k, x :: xs => [.int (k : Nat), x] :: enumD (k + 1) xs
theorem enumD_len : ∀ (k : Nat) (xs : List D), (enumD k xs).length = xs.length
  | _, [] => rfl
  | k, x :: xs => by rw [enumD, List.length_cons, List.length_cons, enumD_len]
theorem enumD_get : ∀ (k : Nat) (xs : List D) (i : Nat), (enumD k xs)[i]? = xs[i]?.map fun x => [.int ((k + i : Nat) : Int), x]
  | _, [], i => by simp [enumD]
  | k, x :: xs, 0 => by simp [enumD]
  | k, x :: xs, i + 1 => by
    rw [enumD, List.getElem?_cons_succ, List.getElem?_cons_succ, enumD_get (k + 1) xs i]
    have : k + 1 + i = k + (i + 1) := by omega
    rw [this]
/-- what a walk over a list, a tuple needs to stand -/
def seqD (st : Store) (d : D) (Q : List D → (Store → Prop) → Prop) : Prop := match d with
  | .lst xs => Q xs fun _ => True
  | .frl xs => Q xs fun _ => True
  | .tup xs => Q xs fun _ => True
  | .cel n => match st[n]? with
    | some (.lst xs) => Q xs fun st' => st'[n]? = some (.lst xs)
    | _ => False
  | _ => False
def iEn (f : ME) : MI := fun ρ st Q => f ρ st fun d st1 => seqD st1 d fun xs G => Q ((enumD 0 xs).map D.tup) G st1
def iEnumX (K : PySem.W.Frag) (ta : TA) : TI := fun σ H R => ta σ H fun vs H1 => ∃ a, vs = [.ref a] ∧ (((∃ xs, SqL K H1 a xs) ∧ R (Ite K a) H1) ∨ ((∃ xs, SqT K H1 a xs) ∧ R (IteT K a) H1))
theorem pi_enumX {e : Expr} {ta : TA} {p pos tpos : Pos} {elts : List Expr} {kk : Nat} (hg : Gl X "enumerate") (hm : X.mg "enumerate" = none) (ha : PA X [e] ta) (hs : starEach [e] X.env = [(false, eval e X.env)] := by rfl) :
    PI X (.Tuple elts kk tpos) (.Call (.Name "enumerate" p) [e] [] pos) (iEnumX X.K ta) := by
  refine ⟨fun pins s σ H R I h => ?_⟩
  refine Call_ (ld_blt I hg hm boot_enumerate (PyProof.Rows.callWith_type1 (thn (ha.run pos pins s σ H _ I h) fun us s1 ⟨vs, H1, I1, r1, q1⟩ => ?_) hs rfl))
  obtain ⟨a, ex, q1⟩ := q1
  subst ex
  obtain ⟨u, rfl, r⟩ := vals1 r1
  obtain rfl : u = Value.ref a := r
  rcases q1 with ⟨⟨xs, hq⟩, q⟩ | ⟨⟨xs, hq⟩, q⟩
  · obtain ⟨its, rv, p', hz⟩ := I1.list hq
    refine call_enumerate_list p'.isList fun h' he hit hsz hk => wpAny_pyIter_enum he ?_
    have I2 : L2.Inv X pins σ H1 { s1 with heap := h' } := I1.kept (t' := s1.toks) hk
    refine ⟨s1.heap.objs.size + 1, [s1.heap.objs.size + 1, s1.heap.objs.size], _, _, H1, rfl, I2, turn_enum a (s1.heap.objs.size + 1) s1.heap.objs.size, ⟨⟨.none, he⟩, hit, Nat.succ_ne_self _⟩, fun b hb => ?_, q⟩
    have hle : s1.heap.objs.size ≤ b := by
      have e' : b = s1.heap.objs.size + 1 ∨ b = s1.heap.objs.size := by simpa using hb
      rcases e' with z | z
      · rw [z]; exact Nat.le_add_right _ _
      · rw [z]; exact Nat.le_refl _
    exact I1.fpOk hle (I1.hok.fresh hle)
  · obtain ⟨its, rv, p', hz⟩ := I1.tuple hq
    have ha : a < s1.heap.objs.size := by obtain ⟨o, ho, _⟩ := p'; exact Heap.lt_size ho
    refine enum_call1 (begins_tuple a its.toArray) p' fun h' he hit hsz hk => wpAny_pyIter_enum he ?_
    have I2 : L2.Inv X pins σ H1 { s1 with heap := h' } := I1.kept (t' := s1.toks) hk
    refine ⟨s1.heap.objs.size + 1, [s1.heap.objs.size + 1, s1.heap.objs.size], _, _, H1, rfl, I2, turn_enumT a (s1.heap.objs.size + 1) s1.heap.objs.size (Nat.succ_ne_self _), ⟨⟨.none, he⟩, ⟨_, hit, rfl, rfl⟩, Nat.ne_of_lt ha, Nat.ne_of_lt (Nat.lt_succ_of_lt ha)⟩, fun b hb => ?_, q⟩
    have hle : s1.heap.objs.size ≤ b := by
      have e' : b = s1.heap.objs.size + 1 ∨ b = s1.heap.objs.size := by simpa using hb
      rcases e' with z | z
      · rw [z]; exact Nat.le_add_right _ _
      · rw [z]; exact Nat.le_refl _
    exact I1.fpOk hle (I1.hok.fresh hle)
/-- a pair of a number and what bears an item -/
theorem enum_row {H : Hp} {μ : Mu} {xs : List D} {vs : List V} {i : Nat} {row : List D} {v : V} (r : RpL K H μ xs vs) (h : (enumD 0 xs)[i]? = some row) (hv : vs[i]? = some v) : RpL K H μ row [.int (i : Nat), v] := by
  rw [enumD_get, Nat.zero_add] at h
  cases q : xs[i]? with
  | none => rw [q] at h; cases h
  | some d =>
    rw [q] at h
    cases h
    obtain ⟨w, hw, rw⟩ := r.get q
    rw [hv] at hw
    cases hw
    exact .cons (.int _ _ _) (.cons rw .nil)
theorem wk_enL {H : Hp} {μ : Mu} {a : Addr} {xs : List D} {G : Store → Prop} (h : ∀ H' μ' st, Tr H μ H' μ' → RpS K H' μ' st → G st → ∃ vs, SqL K H' a vs ∧ RpL K H' μ' xs vs) : Wk K H μ (Ite K a) ((enumD 0 xs).map D.tup) G := by
  refine wk_new (fun i H' μ' st hi g s hG => ?_) (fun H' μ' st g s hG => ?_) fun i x H' H'' μ' st row hr g s hG y => ?_
  · obtain ⟨vs, h1, r⟩ := h H' μ' st g s hG
    rw [enumD_len, r.length] at hi
    exact ⟨vs, vs[i], h1, List.getElem?_eq_getElem hi⟩
  · obtain ⟨vs, h1, r⟩ := h H' μ' st g s hG
    exact ⟨vs, h1, by rw [enumD_len, r.length]; exact Nat.le_refl _⟩
  · obtain ⟨vs, h1, r⟩ := h H' μ' st g s hG
    obtain ⟨T, w, e1, e2, e3, e4⟩ := y
    exact ⟨T, _, e1, e2, e3, enum_row r hr (e4 vs h1)⟩
theorem wk_enT {H : Hp} {μ : Mu} {a : Addr} {xs : List D} {G : Store → Prop} (h : ∀ H' μ' st, Tr H μ H' μ' → RpS K H' μ' st → G st → ∃ vs, SqT K H' a vs ∧ RpL K H' μ' xs vs) : Wk K H μ (IteT K a) ((enumD 0 xs).map D.tup) G := by
  refine wk_new (fun i H' μ' st hi g s hG => ?_) (fun H' μ' st g s hG => ?_) fun i x H' H'' μ' st row hr g s hG y => ?_
  · obtain ⟨vs, h1, r⟩ := h H' μ' st g s hG
    rw [enumD_len, r.length] at hi
    exact ⟨vs, vs[i], h1, List.getElem?_eq_getElem hi⟩
  · obtain ⟨vs, h1, r⟩ := h H' μ' st g s hG
    exact ⟨vs, h1, by rw [enumD_len, r.length]⟩
  · obtain ⟨vs, h1, r⟩ := h H' μ' st g s hG
    obtain ⟨T, w, e1, e2, e3, e4⟩ := y
    exact ⟨T, _, e1, e2, e3, enum_row r hr (e4 vs h1)⟩
theorem di_enum {e : Expr} {f : ME} {p pos tpos : Pos} {elts : List Expr} {kk : Nat} (hm : X.mg "enumerate" = none) (he : DE K X e f) (hK : X.K = K := by rfl) (hg : Gl X "enumerate" := by rfl) (hs : starEach [e] X.env = [(false, eval e X.env)] := by rfl) :
    DI K X (.Tuple elts kk tpos) (.Call (.Name "enumerate" p) [e] [] pos) (iEn f) := by
  subst hK
  refine PI_imp (pi_enumX hg hm (pa_cons he pa_nil hs) hs) fun σ H R ⟨μ, ρ, st, Qi, he, hs, hm, k⟩ => ?_
  refine ⟨μ, ρ, st, _, he, hs, hm, fun d st1 v μ1 H1 q1 r1 s1 g1 => ?_⟩
  cases d with
  | lst xs =>
    simp only [Rp] at r1
    obtain ⟨a, vs, rfl, n, h1, h2⟩ := r1
    refine ⟨a, rfl, .inl ⟨⟨vs, SqL.of h1⟩, k _ _ _ _ _ _ q1 (wk_enL fun H' μ' st' g s _ => ⟨vs, SqL.of (g.lsx a vs n h1), h2.tr g⟩) s1 g1⟩⟩
  | frl xs =>
    simp only [Rp] at r1
    obtain ⟨a, vs, rfl, h1, h2⟩ := r1
    exact ⟨a, rfl, .inl ⟨⟨vs, h1.sq⟩, k _ _ _ _ _ _ q1 (wk_enL fun H' μ' st' g s _ => ⟨vs, (g.lst h1).sq, h2.tr g⟩) s1 g1⟩⟩
  | tup xs =>
    simp only [Rp] at r1
    obtain ⟨a, vs, rfl, h1, h2⟩ := r1
    exact ⟨a, rfl, .inr ⟨⟨vs, h1.sq⟩, k _ _ _ _ _ _ q1 (wk_enT fun H' μ' st' g s _ => ⟨vs, (g.tup h1).sq, h2.tr g⟩) s1 g1⟩⟩
  | cel n =>
    simp only [Rp] at r1
    obtain ⟨a, rfl, h1⟩ := r1
    simp only [seqD] at q1
    split at q1
    · rename_i xs e
      obtain ⟨vs, h2, _⟩ := s1.at_ n a _ h1 e
      exact ⟨a, rfl, .inl ⟨⟨vs, SqL.of h2⟩, k _ _ _ _ _ _ q1 (wk_enL fun H' μ' st' g s hG => by
        obtain ⟨ws, h3, h4⟩ := s.at_ n a _ (g.cel n a h1) hG
        exact ⟨ws, SqL.of h3, h4⟩) s1 g1⟩⟩
    · exact q1.elim
  | _ => exact q1.elim
/-! combinations -/
def combA {α : Type} : Nat → List α → List (List α)
  | 0, _ => [[]]
  | _ + 1, [] => []
  | r + 1, x :: xs => (combA r xs).map (x :: ·) ++ combA (r + 1) xs
theorem combA_map {α β : Type} (f : α → β) : ∀ (r : Nat) (xs : List α), combA r (xs.map f) = (combA r xs).map (List.map f)
  | 0, xs => by simp [combA]
  | r + 1, [] => by simp [combA]
  | r + 1, x :: xs => by
    rw [List.map_cons, combA, combA, combA_map f r xs, combA_map f (r + 1) xs, List.map_append, List.map_map, List.map_map]
    rfl
theorem combIx_A : ∀ (r : Nat) (l : List Nat), combIx r l = combA r l
  | 0, l => by rw [combIx, combA]
  | r + 1, [] => by rw [combIx, combA]
  | r + 1, x :: xs => by rw [combIx, combA, combIx_A r xs, combIx_A (r + 1) xs]
theorem combA_mem {α : Type} : ∀ (r : Nat) (xs : List α) (row : List α), row ∈ combA r xs → row.length = r ∧ ∀ x ∈ row, x ∈ xs
  | 0, xs, row, h => by
    rw [combA, List.mem_singleton] at h
    subst h
    exact ⟨rfl, fun x hx => nomatch hx⟩
  | r + 1, [], row, h => by cases h
  | r + 1, a :: xs, row, h => by
    rw [combA, List.mem_append] at h
    rcases h with h | h
    · obtain ⟨t, ht, rfl⟩ := List.mem_map.mp h
      obtain ⟨h1, h2⟩ := combA_mem r xs t ht
      refine ⟨by rw [List.length_cons, h1], fun x hx => ?_⟩
      rcases List.mem_cons.mp hx with e | e
      · rw [e]; exact List.mem_cons_self
      · exact List.mem_cons_of_mem _ (h2 x e)
    · obtain ⟨h1, h2⟩ := combA_mem (r + 1) xs row h
      exact ⟨h1, fun x hx => List.mem_cons_of_mem _ (h2 x hx)⟩
/-- rows by places -/
theorem rows_at {α : Type} (xs : List α) (z : α) (r : Nat) : (combA r (List.range xs.length)).map (fun ix => ix.map fun i => xs.getD i z) = combA r xs := by
  have h := combA_map (fun i => xs.getD i z) r (List.range xs.length)
  have e : (List.range xs.length).map (fun i => xs.getD i z) = xs := by
    apply List.ext_getElem
    · simp
    · intro i h1 h2
      simp [List.getD_eq_getElem?_getD, List.getElem?_eq_getElem h2]
  rw [e] at h
  exact h.symm
def itemsX (st : Store) (d : D) (Q : List D → Prop) : Prop := match d with
  | .str l => Q (l.map fun c => .str [c])
  | d => match dr st d with
    | .lst xs => Q xs
    | .tup xs => Q xs
    | _ => False
def iCb (f g : ME) : MI := fun ρ st Q => f ρ st fun d st1 => g ρ st1 fun e st2 => isI e fun r => itemsX st2 d fun xs => (xs.length ≤ 7 ∧ 0 ≤ r ∧ r ≤ 8) ∧ Q ((combA r.toNat xs).map D.tup) (fun _ => True) st2
theorem wk_comb {H : Hp} {μ : Mu} {xs : List D} {vs : List V} {r : Nat} (h : RpL K H μ xs vs) : Wk K H μ (Itcb vs (combIx r (List.range vs.length))) ((combA r xs).map D.tup) fun _ => True := by
  have el : (combA r xs).length = (combIx r (List.range vs.length)).length := by
    rw [combIx_A, ← h.length, ← rows_at xs D.non r, List.length_map]
  refine wk_new (fun i H' μ' st hi g s hG => by rw [el] at hi; exact hi) (fun H' μ' st g s hG => by rw [el]; exact Nat.le_refl _) fun i x H' H'' μ' st row hr g s hG y => ?_
  obtain ⟨T, ix, e1, e2, e3, e4⟩ := y
  refine ⟨T, _, e1, e2, e3, ?_⟩
  rw [← rows_at xs D.non r, h.length, List.getElem?_map] at hr
  rw [combIx_A] at e4
  rw [e4] at hr
  cases hr
  have hm := (combA_mem r _ ix (List.mem_of_getElem? e4)).2
  clear e4 e3
  revert hm
  have ht := h.tr g
  generalize ix = ix
  intro hm
  induction ix with
  | nil => exact .nil
  | cons i ix ih =>
    have hi : i < vs.length := List.mem_range.mp (hm i List.mem_cons_self)
    obtain ⟨d, hd, rd⟩ := ht.getV (List.getElem?_eq_getElem hi)
    have e5 : xs.getD i D.non = d := by rw [List.getD_eq_getElem?_getD, hd]; rfl
    have e6 : vs.getD i V.non = vs[i] := by rw [List.getD_eq_getElem?_getD, List.getElem?_eq_getElem hi]; rfl
    show RpL K H' μ' (xs.getD i D.non :: ix.map fun i => xs.getD i D.non) (vs.getD i V.non :: rowV vs ix)
    rw [e5, e6]
    exact .cons rd (ih fun j hj => hm j (List.mem_cons_of_mem _ hj))
theorem RpL.ofSigns {H : Hp} {μ : Mu} (l : List Nat) : RpL K H μ (l.map fun c => .str [c]) (vsg l) := .signs l
theorem di_comb {tg a b : Expr} {f g : ME} {p pos : Pos} (hc : X.calm = true) (hm : X.mg "combinations" = some (.type "itertools.combinations")) (ha : DE K X a f) (hb : DE K X b g) (hK : X.K = K := by rfl) (hg : Gl X "combinations" := by rfl)
    (hs : starEach [a, b] X.env = (false, eval a X.env) :: starEach [b] X.env := by rfl) (hs2 : starEach [b] X.env = (false, eval b X.env) :: starEach [] X.env := by rfl) (hpl : (backTo pos (starEach [b] X.env)).any (·.1) = false := by rfl) :
    DI K X tg (.Call (.Name "combinations" p) [a, b] [] pos) (iCb f g) := by
  subst hK
  refine PI_imp (pi_comb hc hg hm (pa_cons ha (pa_cons hb pa_nil hs2) hs) hs hpl) fun σ H R ⟨μ, ρ, st, Qi, he, hs, hm, k⟩ => ?_
  refine ⟨μ, ρ, st, _, he, hs, hm, fun d st1 v μ1 H1 q1 r1 s1 g1 => ⟨μ1, ρ, st1, _, he.go g1, s1, q1, fun e st2 v2 μ2 H2 q2 r2 s2 g2 => ?_⟩⟩
  obtain ⟨r, rfl, rfl, q2⟩ := r2.int_of q2
  have rd := r1.go g2
  obtain ⟨n, rfl⟩ : ∃ n : Nat, r = (n : Int) := by
    have : 0 ≤ r := by
      unfold itemsX at q2
      split at q2
      · exact q2.1.2.1
      · split at q2
        · exact q2.1.2.1
        · exact q2.1.2.1
        · exact q2.elim
    exact ⟨r.toNat, by omega⟩
  have done : ∀ (xs : List D) (vs : List V), RpL X.K H2 μ2 xs vs → Src X.K H2 v vs → ((xs.length ≤ 7 ∧ (0 : Int) ≤ n ∧ (n : Int) ≤ 8) ∧ Qi ((combA (n : Int).toNat xs).map D.tup) (fun _ => True) st2) → ∃ (x : V) (r : Nat) (xs : List V) (rows : List (List Nat)), [v, V.int n] = [x, .int r] ∧ r ≤ 1000 ∧ Src X.K H2 x xs ∧ Chain xs.length r rows ∧ R (Itcb xs rows) H2 := fun xs vs rl sc q => by
    have hl : vs.length ≤ 7 := by rw [← rl.length]; exact q.1.1
    have hn : n ≤ 8 := by have := q.1.2.2; omega
    exact ⟨v, n, vs, _, rfl, by omega, sc, chain7 hl hn, k _ _ _ _ _ _ q.2 (wk_comb rl) s2 (g1.trans g2)⟩
  unfold itemsX at q2
  split at q2
  · rename_i l _
    simp only [Rp] at rd
    subst rd
    have hl := q2.1.1
    rw [List.length_map] at hl
    exact done _ _ (.signs l) (src_tx (by omega)) q2
  · split at q2
    · rename_i xs e
      obtain ⟨a, vs, rfl, h1, h2⟩ := rd.lstAt s2 e
      exact done _ _ h2 (.inl h1) q2
    · rename_i xs e
      obtain ⟨a, vs, rfl, h1, h2⟩ := rd.tupAt s2 e
      exact done _ _ h2 (.inr h1) q2
    · exact q2.elim
/-! ### instances -/
def lookF (f : Str) : List (Str × D) → Option D
  | [] => none
  | (g, d) :: r => if g = f then some d else lookF f r
theorem RpF.look {H : Hp} {μ : Mu} (f : Str) : ∀ {ds : List (Str × D)} {vs : List (Str × V)}, RpF K H μ ds vs → match lookF f ds with
    | some d => ∃ v, vs.lookup f = some v ∧ Rp K H μ d v
    | none => vs.lookup f = none
  | [], _, h => by simp only [RpF] at h; subst h; exact rfl
  | (g, d) :: ds, _, h => by
    simp only [RpF] at h
    obtain ⟨v, r, rfl, h1, h2⟩ := h
    simp only [RpG] at h1
    unfold lookF
    by_cases e : g = f
    · rw [if_pos e]
      subst e
      exact ⟨v, by simp [List.lookup], h1⟩
    · rw [if_neg e]
      have e' : (f == g) = false := beq_eq_false_iff_ne.mpr fun z => e z.symm
      have := RpF.look f h2
      simp only [List.lookup, e']
      exact this
/-- d is an instance of the class at C, with the attributes fs -/
def isO (st : Store) (C : Addr) (d : D) (Q : List (Str × D) → Prop) : Prop := match dr st d with
  | .ins C' fs => C' = C ∧ Q fs
  | _ => False
def fldK (f : Str) (st : Store) (fs : List (Str × D)) (Q : QD) : Prop := match lookF f fs with
  | some x => Q x st
  | none => False
def mFld (C : Addr) (f : Str) (m : ME) : ME := fun ρ st Q => m ρ st fun d st1 => isO st1 C d fun fs => fldK f st1 fs Q
theorem isO_of {st : Store} {C : Addr} {d : D} {fs : List (Str × D)} {Q : List (Str × D) → Prop} (h : dr st d = .ins C fs) (q : Q fs) : isO st C d Q := by
  unfold isO; rw [h]; exact ⟨rfl, q⟩
theorem fldK_of {f : Str} {st : Store} {fs : List (Str × D)} {x : D} {Q : QD} (h : lookF f fs = some x) (q : Q x st) : fldK f st fs Q := by
  unfold fldK; rw [h]; exact q
theorem Rp.isO {H : Hp} {μ : Mu} {st : Store} {C : Addr} {d : D} {v : V} {Q : List (Str × D) → Prop} (r : Rp K H μ d v) (s : RpS K H μ st) (h : isO st C d Q) : ∃ a dx vs fs, v = .ref a ∧ H a = some (.ins C dx vs) ∧ RpF K H μ fs vs ∧ dr st d = .ins C fs ∧ Q fs := by
  unfold DL.isO at h
  split at h
  · rename_i C' fs e
    obtain ⟨rfl, q⟩ := h
    obtain ⟨a, dx, vs, rfl, h1, h2⟩ := r.insAt s e
    exact ⟨a, dx, vs, fs, rfl, h1, h2, e, q⟩
  · exact h.elim
theorem de_fld {C : Addr} {f : Str} {o : Expr} {m : ME} {pos : Pos} (c : Cls X.K C) (n : NoAttr X.K C f) (ho : DE K X o m) (hK : X.K = K := by rfl) (hb : attributeBase o f X.env (eval o X.env) = eval o X.env := by rfl) : DE K X (.Attribute o f pos) (mFld C f m) := by
  subst hK
  refine PE_imp (pe_fld ho hb) fun σ H Q ⟨μ, ρ, st, Qd, he, s, hm, k⟩ => ?_
  refine ⟨μ, ρ, st, _, he, s, hm, fun d st1 v μ1 H1 q1 r1 s1 g1 => ?_⟩
  obtain ⟨a, dx, vs, fs, rfl, h1, h2, e, q⟩ := r1.isO s1 q1
  have := h2.look f
  unfold fldK at q
  split at q
  · rename_i x hx
    rw [hx] at this
    obtain ⟨w, hw, rw⟩ := this
    exact ⟨a, C, dx, vs, w, rfl, h1, c, n, hw, (k.to g1).at q rw s1⟩
  · exact q.elim
/-- a property that hands on a field -/
theorem de_prop {C : Addr} {x f : Str} {o : Expr} {m : ME} {pos : Pos} (c : Cls X.K C) (hp : CanP X.prog X.w X.K X.mg X.base C x f) (hr : Room 2 X.A) (ho : DE K X o m) (hK : X.K = K := by rfl) (hab : attributeBase o x X.env (eval o X.env) = eval o X.env := by rfl) : DE K X (.Attribute o x pos) (mFld C f m) := by
  subst hK
  refine PE_imp (pe_propF ho c hp hr hab) fun σ H Q ⟨μ, ρ, st, Qd, he, s, hm, k⟩ => ?_
  refine ⟨μ, ρ, st, _, he, s, hm, fun d st1 v μ1 H1 q1 r1 s1 g1 => ?_⟩
  obtain ⟨a, dx, vs, fs, rfl, h1, h2, e, q⟩ := r1.isO s1 q1
  have := h2.look f
  unfold fldK at q
  split at q
  · rename_i x hx
    rw [hx] at this
    obtain ⟨w, hw, rw⟩ := this
    exact ⟨a, dx, vs, rfl, h1, a, dx, vs, w, rfl, h1, hw, (k.to g1).at q rw s1⟩
  · exact q.elim
def putFD (f : Str) (d : D) : List (Str × D) → List (Str × D)
  | [] => [(f, d)]
  | (g, x) :: r => if g = f then (g, d) :: r else (g, x) :: putFD f d r
theorem RpF.put {H : Hp} {μ : Mu} {f : Str} {d : D} {v : V} (q : Rp K H μ d v) : ∀ {ds : List (Str × D)} {vs : List (Str × V)}, RpF K H μ ds vs → RpF K H μ (putFD f d ds) (putF f v vs)
  | [], _, h => by
    simp only [RpF] at h; subst h
    simp only [putFD, putF, RpF, RpG]
    exact ⟨v, [], rfl, q, rfl⟩
  | (g, e) :: ds, _, h => by
    simp only [RpF] at h
    obtain ⟨w, r, rfl, h1, h2⟩ := h
    unfold putFD putF
    by_cases z : g = f
    · rw [if_pos z, if_pos z]
      simp only [RpF, RpG]
      exact ⟨v, r, rfl, q, h2⟩
    · rw [if_neg z, if_neg z]
      simp only [RpF]
      exact ⟨w, _, rfl, h1, RpF.put q h2⟩
theorem RpF.length {H : Hp} {μ : Mu} : ∀ {ds : List (Str × D)} {vs : List (Str × V)}, RpF K H μ ds vs → ds.length = vs.length
  | [], _, h => by simp only [RpF] at h; rw [h]; rfl
  | p :: ds, _, h => by
    simp only [RpF] at h
    obtain ⟨v, r, rfl, _, h2⟩ := h
    rw [List.length_cons, List.length_cons, RpF.length h2]
/-- o.f = value: o a cell -/
def fldS (C : Addr) (f : Str) (ρ : Env) (st2 : Store) (d y : D) (De : DEnds) : Prop := match d with
  | .cel n => match st2[n]? with
    | some (.ins C' fs) => (C' = C ∧ fs.length < 1000) ∧ De.nx ρ (st2.set n (.ins C (putFD f y fs)))
    | _ => False
  | _ => False
def sFldD (C : Addr) (f : Str) (o : ME) (v : ME) : MS := fun ρ st De => v ρ st fun y st1 => o ρ st1 fun d st2 => fldS C f ρ st2 d y De
theorem ds_fld {C : Addr} {f : Str} {o value : Expr} {mo mv : ME} {pos pos' : Pos} (c : Cls X.K C) (n : NoAttr X.K C f) (ho : DE K X o mo) (hv : DE K X value mv) (hK : X.K = K := by rfl) (hs : swapsWith value (some (.Attribute o f pos')) pos.line X.env = pure false := by rfl) : DS K X (.Assign [.Attribute o f pos'] value pos) (sFldD C f mo mv) := by
  subst hK
  refine PS_imp (ps_fld ho hv hs) fun D σ H ⟨μ, ρ, st, De, he, s, hm, k⟩ => ?_
  refine ⟨μ, ρ, st, _, he, s, hm, fun y st1 w μ1 H1 q1 r1 s1 g1 => ⟨μ1, ρ, st1, _, he.go g1, s1, q1, fun d st2 v μ2 H2 q2 r2 s2 g2 => ?_⟩⟩
  unfold fldS at q2
  split at q2
  · rename_i m
    split at q2
    · rename_i C' fs e
      obtain ⟨⟨rfl, hl⟩, q2⟩ := q2
      simp only [Rp] at r2
      obtain ⟨p, rfl, hp⟩ := r2
      obtain ⟨dx, vs, h1, hd, no, rf⟩ := s2.at_ m p _ hp e
      have hpm := List.mem_of_getElem? hp
      have ne : dx ≠ p := fun z => no.1 (z ▸ hpm)
      refine ⟨p, C', dx, vs, rfl, h1, c, n, by rw [← rf.length]; exact hl, ?_⟩
      refine k.nx _ _ _ _ _ q2 (((he.go g1).go g2).go (.cellSet hpm)) (s2.cellSet hp ?_) ((g1.trans g2).trans (.cellSet hpm))
      exact ⟨dx, _, upd_same, by rw [upd_ne ne]; exact hd, no, (RpF.put (r1.go g2) rf).go (.cellSet hpm)⟩
    · exact q2.elim
  · exact q2.elim
/-! making an instance -/
structure CanMD (P : Program) (w : World) (K : PySem.W.Frag) (mg : Str → Option Value) (base : Heap) (k : Nat) (x : Str) (C : Addr) (ps : List Str) (S : MC) : Prop where
  can : CanM P w K mg base k x C ps (spD K ps.length S)
def mMake (n : Nat) (C : Addr) (S : MC) (r : MA) : ME := fun ρ st Q => r ρ st fun ds st1 => ds.length + 1 = n ∧ S (st1 ++ [.ins C []]) (.cel st1.length :: ds) fun v st2 => v = .non ∧ Q (.cel st1.length) st2
theorem de_make {k : Nat} {C : Addr} {x : Str} {ps : List Str} {S : MC} {p pos : Pos} {e : Expr} {es : List Expr} {r : MA} (c : CanMD X.prog X.w X.K X.mg X.base k x C ps S) (hr : Room (k + 1) X.A) (ha : DA K X (e :: es) r) (hK : X.K = K := by rfl) (hg : Gl X x := by rfl) (hdb : (x == ("__debug__" : Str)) = false := by decide)
    (he : starEach (e :: es) X.env = (false, eval e X.env) :: starEach es X.env := by rfl) (hpl : (backTo pos (starEach es X.env)).any (·.1) = false := by rfl) : DE K X (.Call (.Name x p) (e :: es) [] pos) (mMake ps.length C S r) := by
  subst hK
  refine PE_imp (pe_canM c.can hr ha hg hdb he hpl) fun σ H Q ⟨μ, ρ, st, Qd, hee, s, hm, k⟩ => ?_
  refine ⟨μ, ρ, st, _, hee, s, hm, fun ds st1 vs μ1 H1 q1 r1 s1 g1 => ?_⟩
  intro a dx na ndx ne
  have s2 := s1.new (o := .own a) ndx
  have nb : (upd H1 dx (HO.own a)) a = none := by rw [upd_ne (Ne.symm ne)]; exact na
  have g2 : Go H1 μ1 (upd H1 dx (.own a)) μ1 := .new ndx
  have g3 : Go (upd H1 dx (.own a)) μ1 (upd (upd H1 dx (.own a)) a (.ins C dx [])) (μ1.add a) := .cellNew nb
  have od := s1.off ndx
  have s3 : RpS X.K (upd (upd H1 dx (.own a)) a (.ins C dx [])) (μ1.add a) (st1 ++ [.ins C []]) := by
    refine s2.cellNew nb ⟨dx, [], upd_same, by rw [upd_ne ne]; exact upd_same, ⟨fun z => ?_, od.2⟩, by simp only [RpF]⟩
    rcases List.mem_append.mp z with z | z
    · exact od.1 z
    · exact ne (List.mem_singleton.mp z)
  have hc : (μ1.add a).c[st1.length]? = some a := by
    show (μ1.c ++ [a])[_]? = _
    rw [← s1.len, List.getElem?_append_right (Nat.le_refl _), Nat.sub_self]; rfl
  refine ⟨?_, μ1.add a, st1 ++ [.ins C []], .cel st1.length :: ds, _, .cons (by simp only [Rp]; exact ⟨a, rfl, hc⟩) ?_, s3, q1.2, fun d st4 v μ4 H4 q4 r4 s4 g4 => ?_⟩
  · rw [List.append_nil, List.length_cons, ← r1.length]; exact q1.1
  · rw [List.append_nil]; exact (r1.go g2).go g3
  · obtain ⟨rfl, q4⟩ := q4
    simp only [Rp] at r4
    refine ⟨r4, k _ _ _ _ _ q4 ?_ s4 (((g1.trans g2).trans g3).trans g4)⟩
    simp only [Rp]
    exact ⟨a, rfl, prefix_get g4.pre hc⟩
/-! methods -/
structure CanMe (P : Program) (w : World) (K : PySem.W.Frag) (mg : Str → Option Value) (base : Heap) (k : Nat) (C : Addr) (m : Str) (ps : List Str) (S : MC) : Prop where
  ex : ∃ f fd, Meth K C m f ∧ FnOk P w K mg base CX0 k f fd ps (spD K ps.length S) ∧ Binds K fd ps []
def mMeth (C : Addr) (m : Str) (n : Nat) (S : MC) (f : ME) (r : MA) : ME := fun ρ st Q => f ρ st fun d st1 => isO st1 C d fun fs => lookF m fs = none ∧ r ρ st1 fun ds st2 => ds.length + 1 = n ∧ S st2 (d :: ds) Q
theorem de_meth {pl : Sem Bool} {k : Nat} {C : Addr} {m : Str} {ps : List Str} {S : MC} {o e : Expr} {es : List Expr} {f : ME} {r : MA} {pos apos : Pos} (c : Cls X.K C) (hm : CanMe X.prog X.w X.K X.mg X.base k C m ps S) (hr : Room k X.A) (ho : DE K X o f) (ha : DA K X (e :: es) r) (hK : X.K = K := by rfl)
    (hst : starEach (e :: es) X.env = (false, eval e X.env) :: starEach es X.env := by rfl) (hpl : (backTo pos (starEach es X.env)).any (·.1) = false := by rfl)
    (ht : eval (.Call (.Attribute o m apos) (e :: es) [] pos) X.env = (do
      let ov ← eval o X.env
      standAt apos.atName
      let (f, first) ← holding [ov] (getMethod ov m pl)
      callWith pos f first (backTo pos (starEach (e :: es) X.env)) (backToKw pos (keywordEach [] X.env))) := by rfl) :
    DE K X (.Call (.Attribute o m apos) (e :: es) [] pos) (mMeth C m ps.length S f r) := by
  subst hK
  obtain ⟨g, fd, hme, F, hb⟩ := hm.ex
  refine PE_imp (pe_meth (E := E0) (dvs := []) ho c hme F hr hb .nil pass0 ha hst hpl ht) fun σ H Q ⟨μ, ρ, st, Qd, hee, s, hm, k⟩ => ?_
  refine ⟨μ, ρ, st, _, hee, s, hm, fun d st1 v μ1 H1 q1 r1 s1 g1 => ?_⟩
  obtain ⟨a, dx, vs, fs, rfl, h1, h2, e, hl, q⟩ := r1.isO s1 q1
  have := h2.look m
  rw [hl] at this
  refine ⟨a, dx, vs, rfl, h1, this, μ1, ρ, st1, _, hee.go g1, s1, q, fun ds st2 ws μ2 H2 q2 r2 s2 g2 => ?_⟩
  refine ⟨?_, μ2, st2, d :: ds, Qd, .cons (r1.go g2) ?_, s2, q2.2, k.to (g1.trans g2)⟩
  · rw [List.append_nil, List.length_cons, ← r2.length]; exact q2.1
  · rw [List.append_nil]; exact r2
/-! isinstance of the class at C -/
structure IsC (K : PySem.W.Frag) (C : Addr) : Prop where
  cl : Cls K C
  ha : PySem.W.findIn K (.ref C) "__class__" = some (some (.builtin "object.__class__"))
  hn : PySem.W.specialIn K (.builtin "object.__class__") "__get__" = some (some (.builtin "getset_descriptor.__get__"))
  htk : PySem.W.takesIn K (.builtin "object.__class__") = some true
  hm : PySem.W.mroIn K C (.type "object") = some true
  own : PySem.W.kitOne K (.ref C) (.ref C) = some true
  oth : ∀ n ∈ tyNames, PySem.W.kitOne K (.type n) (.ref C) = some false
def isCK (C : Addr) (st1 : Store) (d : D) (Q : QD) : Prop := match dr st1 d with
  | .ins C' _ => C' = C ∧ Q (.bl true) st1
  | d' => match tyN d' with
    | some _ => Q (.bl false) st1
    | none => False
def mIsC (C : Addr) (f : ME) : ME := fun ρ st Q => f ρ st fun d st1 => isCK C st1 d Q
theorem isC_of {C : Addr} {st : Store} {d : D} {fs : List (Str × D)} {Q : QD} (h : dr st d = .ins C fs) (q : Q (.bl true) st) : isCK C st d Q := by
  unfold isCK
  rw [h]; exact ⟨rfl, q⟩
theorem de_isC {C : Addr} {x : Str} {e : Expr} {f : ME} {p p2 pos : Pos} (h : IsC X.K C) (hm : X.mg "isinstance" = none) (hx : X.mg x = some (.ref C)) (he : DE K X e f) (hK : X.K = K := by rfl)
    (hg : Gl X "isinstance" := by rfl) (hg2 : Gl X x := by rfl) (hd2 : (x == ("__debug__" : Str)) = false := by decide)
    (hs : starEach (e :: [.Name x p2]) X.env = (false, eval e X.env) :: starEach [.Name x p2] X.env := by rfl) (hs2 : starEach [.Name x p2] X.env = (false, eval (.Name x p2) X.env) :: starEach [] X.env := by rfl) (hpl : (backTo pos (starEach [.Name x p2] X.env)).any (·.1) = false := by rfl) :
    DE K X (.Call (.Name "isinstance" p) [e, .Name x p2] [] pos) (mIsC C f) := by
  subst hK
  refine PE_imp (pe_callB call_isi hg hm (by decide +kernel) (pa_cons he (pa_cons (pe_glob (v := .ref C) hg2 hx rfl hd2) pa_nil hs2) hs) (by decide) (by decide) hs hpl) fun σ H Q ⟨μ, ρ, st, Qd, hee, s, hm, k⟩ => ?_
  refine ⟨μ, ρ, st, _, hee, s, hm, fun d st1 v μ1 H1 q1 r1 s1 g1 => ?_⟩
  unfold isCK at q1
  split at q1
  · rename_i C' fs e
    obtain ⟨rfl, q⟩ := q1
    obtain ⟨a, dx, vs, rfl, h1, h2⟩ := r1.insAt s1 e
    exact ⟨_, .ref C', .ref C', .ref C', true, rfl, .own C', .base (.ins h1 h.cl h.ha h.hn h.htk h.hm), h.own, (k.to g1).at q (.bl _ _ _) s1⟩
  · split at q1
    · rename_i n hn
      obtain ⟨tx, hmem⟩ := r1.tyX s1 hn
      exact ⟨v, .ref C, .type n, .ref C, false, rfl, .own C, tx, h.oth n hmem, (k.to g1).at q1 (.bl _ _ _) s1⟩
    · exact q1.elim
/-! ### dict(a list of pairs) -/
def pairD : D → Option (DK × D)
  | .tup [.int i, d] => some (.inl i, d)
  | .tup [.str l, d] => some (.inr l, d)
  | _ => none
def pairsOf : List D → Option (List (DK × D))
  | [] => some []
  | x :: xs => match pairD x, pairsOf xs with
    | some p, some ps => some (p :: ps)
    | _, _ => none
def mergeD (kvs : List (DK × D)) (ps : List (DK × D)) : List (DK × D) := ps.foldl (fun a p => putD p.1 p.2 a) kvs
theorem RpK.merge {H : Hp} {μ : Mu} : ∀ {ps : List (DK × D)} {vs : List (Key × V)} {kvs : List (DK × D)} {ws : List (Key × V)}, RpK K H μ ps vs → RpK K H μ kvs ws → NdK kvs → RpK K H μ (mergeD kvs ps) (mergeK ws vs)
  | [], _, kvs, ws, h, h2, _ => by simp only [RpK] at h; subst h; exact h2
  | (k, d) :: ps, _, kvs, ws, h, h2, nd => by
    simp only [RpK] at h
    obtain ⟨v, r, rfl, h1, h3⟩ := h
    simp only [RpP] at h1
    exact RpK.merge (kvs := putD k d kvs) (ws := putK ws (kk k) v) h3 (RpK.put (k := k) h1 h2 nd) (putD_nd nd)
theorem pairD_at {H : Hp} {μ : Mu} {st : Store} {x : D} {v : V} {p : DK × D} (s : RpS K H μ st) (r : Rp K H μ x v) (h : pairD x = some p) : ∃ a w, v = .ref a ∧ SqT K H a [kV (kk p.1), w] ∧ Rp K H μ p.2 w := by
  unfold pairD at h
  split at h
  · cases h
    obtain ⟨a, vs, rfl, h1, h2⟩ := r.tupAt s rfl
    obtain ⟨u, w, rfl, r1, r2⟩ := h2.two
    simp only [Rp] at r1
    subst r1
    exact ⟨a, w, rfl, h1, r2⟩
  · cases h
    obtain ⟨a, vs, rfl, h1, h2⟩ := r.tupAt s rfl
    obtain ⟨u, w, rfl, r1, r2⟩ := h2.two
    simp only [Rp] at r1
    subst r1
    exact ⟨a, w, rfl, h1, r2⟩
  · cases h
theorem pairsOf_at {H : Hp} {μ : Mu} {st : Store} (s : RpS K H μ st) : ∀ {xs : List D} {vs : List V} {ps : List (DK × D)}, RpL K H μ xs vs → pairsOf xs = some ps → ∃ (as : List Addr) (kvs : List (Key × V)), vs = as.map V.ref ∧ Paired (fun p kv => SqT K H p [kV kv.1, kv.2]) as kvs ∧ RpK K H μ ps kvs
  | [], _, ps, h, e => by
    simp only [RpL] at h; subst h
    cases e
    exact ⟨[], [], rfl, .nil, by simp only [RpK]⟩
  | x :: xs, _, ps, h, e => by
    simp only [RpL] at h
    obtain ⟨v, r, rfl, h1, h2⟩ := h
    unfold pairsOf at e
    split at e
    · rename_i p qs e1 e2
      cases e
      obtain ⟨a, w, rfl, h3, h4⟩ := pairD_at s h1 e1
      obtain ⟨as, kvs, rfl, h5, h6⟩ := pairsOf_at s h2 e2
      refine ⟨a :: as, (kk p.1, w) :: kvs, rfl, .cons h3 h5, ?_⟩
      simp only [RpK]
      obtain ⟨j, d⟩ := p
      exact ⟨w, kvs, rfl, by simp only [RpP]; exact h4, h6⟩
    · cases e
def cDict : MC := fun st ds Q => lstOf st ds fun xs => match pairsOf xs with
  | some ps => Q (.dic (mergeD [] ps)) st
  | none => False
def cDictC : MC := fun st ds Q => lstOf st ds fun xs => match pairsOf xs with
  | some ps => Q (.cel st.length) (st ++ [.dic (mergeD [] ps)])
  | none => False
theorem nd_nil : NdK [] := List.nodup_nil
theorem mergeD_nd : ∀ {ps kvs : List (DK × D)}, NdK kvs → NdK (mergeD kvs ps)
  | [], _, h => h
  | p :: ps, _, h => mergeD_nd (ps := ps) (putD_nd h)
theorem dc_dict (hc : X.calm = true) (hK : X.K = K := by rfl) : CallR X (.type "dict") (lC K cDict) := by
  subst hK
  refine CallR_imp (call_dictP hc) fun xs H Q hh => ?_
  obtain ⟨μ, st, ds, Qd, r, s, hm, k⟩ := hh
  obtain ⟨p, ws, xs, rfl, h4, h5, q⟩ := lstOf_at r s hm
  split at q
  · rename_i ps e
    obtain ⟨as, kvs, rfl, h6, h7⟩ := pairsOf_at s h5 e
    refine ⟨p, as, kvs, rfl, h4, h6, fun t ht => ?_⟩
    refine k _ _ _ μ _ q ?_ (s.new ht) (.new ht)
    simp only [Rp]
    exact ⟨t, _, rfl, s.off ht, .inl upd_same, (h7.merge (by simp only [RpK]) nd_nil).go (.new ht)⟩
  · exact q.elim
theorem dc_dictC (hc : X.calm = true) (hK : X.K = K := by rfl) : CallR X (.type "dict") (lC K cDictC) := by
  subst hK
  refine CallR_imp (call_dictP hc) fun xs H Q hh => ?_
  obtain ⟨μ, st, ds, Qd, r, s, hm, k⟩ := hh
  obtain ⟨p, ws, xs, rfl, h4, h5, q⟩ := lstOf_at r s hm
  split at q
  · rename_i ps e
    obtain ⟨as, kvs, rfl, h6, h7⟩ := pairsOf_at s h5 e
    refine ⟨p, as, kvs, rfl, h4, h6, fun t ht => ?_⟩
    refine k _ _ _ (μ.add t) _ q ?_ (s.cellNew ht ⟨_, upd_same, (h7.merge (by simp only [RpK]) nd_nil).go (.cellNew ht)⟩) (.cellNew ht)
    simp only [Rp]
    exact ⟨t, rfl, by show (μ.c ++ [t])[_]? = _; rw [← s.len, List.getElem?_append_right (Nat.le_refl _), Nat.sub_self]; rfl⟩
  · exact q.elim
end
end DL
set_option Elab.async false
set_option linter.all false
set_option maxRecDepth 100000
set_option maxHeartbeats 2000000
namespace DL
open PySem PySem.Spec PyProof.Rows L2 Nf
section
variable {K : PySem.W.Frag} {X : Cx}
/-! ### promises made weaker -/
theorem fnOk_mono {CX : CXT} {P : Program} {w : World} {mg : Str → Option Value} {base : Heap} {k : Nat} {f : Addr} {fd : FuncData} {ps : List Str} {sp sp' : Sp} (F : FnOk P w K mg base CX k f fd ps sp) (h : ∀ vs H Q E, sp' vs H Q E → sp vs H Q E) : FnOk P w K mg base CX k f fd ps sp' :=
  ⟨fun vs H Q E q => F.len vs H Q E (h _ _ _ _ q), fun A outer s H args us vs Q E hr e0 hb r q => F.run A outer s H args us vs Q E hr e0 hb r (h _ _ _ _ q)⟩
/-! ### what a call within is told: heard(lambda: ..) -/
def TabsIn (T : List (Addr × Str)) (st : Store) : Prop := (∀ (n : Nat) P q, st[n]? = some (.tab P q) → (P, q) ∈ T) ∧ ∀ p ∈ T, ∃ n : Nat, st[n]? = some (.tab p.1 p.2)
def tTold : (XK → Hp → VK → Prop) → Hp → VK → Prop := fun tl H Q => tl (fun _ _ _ => False) H fun v H1 => ∃ x, (some (some v) : Option (Option V)) = some (some x) ∧ [V.str "told", x].length ≤ sizeLine ∧ ∀ p, H1 p = none → Q (.ref p) (upd H1 p (.lst [.str "told", x]))
def toldL : List Nat := ("told" : Str).cps.toList
def mHeard (T : List (Addr × Str)) (m : ME) : ME := fun ρ st Q => TabsIn T st ∧ m ρ st fun v st1 => Q (.lst [.str toldL, v]) st1
theorem RpS.tabs {H : Hp} {μ : Mu} {st : Store} {T : List (Addr × Str)} (s : RpS K H μ st) (h : TabsIn T st) : LamX.Tabs T H := fun p hp => by
  obtain ⟨n, hn⟩ := h.2 p hp
  have hl : n < μ.c.length := by rw [s.len]; exact (List.getElem?_eq_some_iff.mp hn).1
  obtain ⟨e, ps, h1, h2, h3⟩ := s.at_ n μ.c[n] _ (List.getElem?_eq_getElem hl) hn
  exact ⟨ps, h1, h2, fun pos cv hc => let ⟨c, e1, _, e2⟩ := h3 pos cv hc; ⟨c, e1, e2⟩⟩
theorem Go.lam {H H1 : Hp} {μ : Mu} (e : LamX.ExtN H H1) : Go H μ H1 μ := ⟨List.prefix_refl _, rfl, rfl, fun a o h n t => ⟨n, e a o h t⟩⟩
theorem RpS.lam {H H1 : Hp} {μ : Mu} {st : Store} {T : List (Addr × Str)} (s : RpS K H μ st) (h : TabsIn T st) (e : LamX.ExtN H H1) (t : LamX.Tabs T H1) : RpS K H1 μ st := by
  have g : Go H μ H1 μ := .lam e
  have offc : ∀ {c : Addr} {q : Str}, H1 c = some (LamX.CodeO c q) → μ.off c := fun {c q} hc => by
    refine ⟨fun z => ?_, fun z => ?_⟩
    · obtain ⟨n, hn⟩ := List.mem_iff_getElem?.mp z
      have hl : n < st.length := by rw [← s.len]; exact (List.getElem?_eq_some_iff.mp hn).1
      have hs : st[n]? = some st[n] := List.getElem?_eq_getElem hl
      have rc := s.at_ n c _ hn hs
      have no : ∀ o : HO, H c = some o → (∀ ps, o ≠ .tbl ps) → isL o → False := fun o ho nt il => by
        have h1 := e c o ho nt
        rw [hc] at h1
        cases h1
        unfold LamX.CodeO at il
        exact il
      cases hcell : st[n] with
      | lst xs => rw [hcell] at rc; obtain ⟨vs, h1, _⟩ := rc; exact no _ h1 (fun ps z => by cases z) trivial
      | dic xs => rw [hcell] at rc; obtain ⟨vs, h1, _⟩ := rc; exact no _ h1 (fun ps z => by cases z) trivial
      | dit xs => rw [hcell] at rc; obtain ⟨vs, h1, _⟩ := rc; exact no _ h1 (fun ps z => by cases z) trivial
      | ins C fs => rw [hcell] at rc; obtain ⟨dx, vs, h1, _⟩ := rc; exact no _ h1 (fun ps z => by cases z) trivial
      | tab P q' =>
        rw [hcell] at rc hs
        obtain ⟨e1, _⟩ := rc
        obtain ⟨ps, h1, _⟩ := t _ (h.1 n P q' hs)
        have h1 : H1 P = some (.tbl ps) := h1
        rw [← e1, hc] at h1
        unfold LamX.CodeO at h1
        cases h1
    · obtain ⟨_, o, ho, il⟩ := s.hid c z
      have h1 := e c o ho (fun ps z => by rw [z] at il; exact il)
      rw [hc] at h1
      cases h1
      unfold LamX.CodeO at il
      exact il
  refine ⟨s.len, s.nd, fun n a c h1 h2 => ?_, fun a ha => ?_, s.tab⟩
  · have rc := s.at_ n a c h1 h2
    have keep : ∀ o : HO, H a = some o → (∀ ps, o ≠ .tbl ps) → H a = H1 a := fun o ho nt => by rw [ho, e a o ho nt]
    cases c with
    | lst xs => obtain ⟨vs, h3, _⟩ := id rc; exact rc.go g (keep _ h3 (fun ps z => by cases z))
    | dic xs => obtain ⟨vs, h3, _⟩ := id rc; exact rc.go g (keep _ h3 (fun ps z => by cases z))
    | dit xs => obtain ⟨vs, h3, _⟩ := id rc; exact rc.go g (keep _ h3 (fun ps z => by cases z))
    | ins C fs => obtain ⟨dx, vs, h3, _⟩ := id rc; exact rc.go g (keep _ h3 (fun ps z => by cases z))
    | tab P q =>
      obtain ⟨e1, _⟩ := rc
      obtain ⟨ps, h3, h4, h5⟩ := t _ (h.1 n P q h2)
      refine ⟨e1, ps, h3, h4, fun pos cv hc => ?_⟩
      obtain ⟨c, e2, e3⟩ := h5 pos cv hc
      exact ⟨c, e2, offc e3, e3⟩
  · obtain ⟨n, o, ho, il⟩ := s.hid a ha
    exact ⟨n, o, e a o ho (fun ps z => by rw [z] at il; exact il), il⟩
theorem de_heardOf {e : Expr} {T : List (Addr × Str)} {m : ME} (h : PE X e (LamX.tLam T tTold fun _ => lE K m)) : DE K X e (mHeard T m) :=
  PE_imp h fun σ H Q ⟨μ, ρ, st, Qd, he, s, hm, k⟩ => by
    obtain ⟨hT, hm⟩ := hm
    refine ⟨s.tabs hT, fun H1 n1 T1 => ?_⟩
    have g1 : Go H μ H1 μ := .lam n1
    refine ⟨μ, ρ, st, _, he.go g1, s.lam hT n1 T1, hm, fun d st2 v μ2 H2 q2 r2 s2 g2 => ?_⟩
    refine ⟨v, rfl, sz5 (by show 2 ≤ 1000000; decide), fun p hp => ?_⟩
    have r1 : Rp K H2 μ2 (.str toldL) (.str "told") := by
      have := Rp.str (K := K) H2 μ2 toldL
      unfold toldL at this ⊢
      rw [tx_cps] at this
      exact this
    exact (k.to (g1.trans g2)).lst q2 (.cons r1 (.cons r2 .nil)) s2 hp
/-! ### repr where nothing is being shown -/
structure ShowOk (d : PyData) : Prop where
  sh : d.showable = true
  hd : d.hasDict = false
  dp : d.depth ≤ 60
  sz : d.shown.length ≤ sizeLine
def rowLike : D → Bool
  | .lst _ => true
  | .tup _ => true
  | .frl _ => true
  | .cel _ => true
  | _ => false
def cRepr : MC := fun st ds Q => match ds with
  | [d] => (rowLike d = true ∧ Dat (dr st d) = true ∧ ShowOk (py (dr st d))) ∧ Q (.str (py (dr st d)).shown.cps.toList) st
  | _ => False
theorem dc_repr (hg : X.A.guards = some []) (hu : X.A.units + 64 < cLine) (hK : X.K = K := by rfl) : CallR X (.builtin "repr") (lC K cRepr) := by
  subst hK
  intro pins s0 σ H xs us Q I r h
  obtain ⟨μ, st, ds, Qd, rr, s, hm, k⟩ := h
  unfold cRepr at hm
  split at hm
  · rename_i d
    obtain ⟨v, rfl, rd⟩ := rr.one
    obtain ⟨⟨h0, h1, h2⟩, q⟩ := hm
    obtain ⟨a, rfl⟩ : ∃ a, v = .ref a := by
      cases d <;> simp only [rowLike] at h0 <;> (try cases h0) <;> simp only [Rp] at rd <;> obtain ⟨a, rd⟩ := rd
      · obtain ⟨_, rfl, _⟩ := rd; exact ⟨_, rfl⟩
      · obtain ⟨_, rfl, _⟩ := rd; exact ⟨_, rfl⟩
      · obtain ⟨_, rfl, _⟩ := rd; exact ⟨_, rfl⟩
      · obtain ⟨rfl, _⟩ := rd; exact ⟨_, rfl⟩
    obtain ⟨u, rfl, rv⟩ := vals1 r
    obtain rfl : u = Value.ref a := rv
    obtain ⟨as, rdd⟩ := Dp.reads I _ _ _ (rd.drAt s h1) rfl
    refine repr_of_reads' rdd h2.sh (fun e => by rw [h2.hd] at e; cases e) hg (by have := h2.dp; omega) (fun _ _ e => e) (fun h' u tk hk => ⟨.str _, H, I.kept hk, ⟨_, rfl⟩, ?_⟩) h2.sz
    have := k.at q (.str _ _ _) s
    rw [tx_cps] at this
    exact this
  · exact hm.elim
/-! ### defs under which nothing is being shown -/
structure FnOkG (P : Program) (w : World) (K : PySem.W.Frag) (mg : Str → Option Value) (base : Heap) (k : Nat) (f : Addr) (fd : FuncData) (ps : List Str) (sp : Sp) : Prop where
  len : ∀ vs H Q E, sp vs H Q E → vs.length = ps.length
  run : ∀ (A : Around) (outer : List PySem.Env) (s : Shared) (H : Hp) (args : Args) (us : List Value) (vs : List V) (Q : VK) (E : XK), Room k A → A.guards = some [] → Env0 P w K mg base A outer s H → BindsTo s fd args (ps.zip us) → Vals vs us → sp vs H Q E →
    codeAny (model P w) A (.call (.ref f) args) (CR CX0 outer P w H s Q E) s
/-- a def whose code object stands at c -/
structure FunC (K : PySem.W.Frag) (x : Str) (st : Stmt) (f : Addr) (fd : FuncData) (c : Addr) : Prop where
  ex : ∃ (oc : Value) (od : Option Addr) (kV doc pm : Value) (an : Option Addr) (ct : Value) (osl : Array (Option Value)),
    fd = PySem.W.fnOf x x (defArgs st) (defBody st) (defScope st) .none kV doc pm an (.ref c) ct ∧ K.lookup f = some ⟨oc, od, .func (PySem.W.fnOf x x (defArgs st) (defBody st) (defScope st) .none kV doc pm an (.ref c) ct), osl⟩ ∧ PySem.W.codeIn K (.ref c) x = true
  kp : PySem.W.keepIn K (.ref f) = true
theorem FunC.okG {P : Program} {w : World} {mg : Str → Option Value} {base : Heap} {x : Str} {st : Stmt} {f c : Addr} {fd : FuncData} {N ps : List Str} {k : Nat} {sp : Sp} (F : FunC K x st f fd c) (S : FnScope N ps (defScope st)) (len : ∀ vs H Q E, sp vs H Q E → vs.length = ps.length)
    (hbody : ∀ (A : Around) (outer : List PySem.Env) (s : Shared) (H : Hp) (vs : List V) (Q : VK) (E : XK), Room k (A.deeper (envOfC x (defScope st) s.heap.objs.size f (.ref c))) → (A.deeper (envOfC x (defScope st) s.heap.objs.size f (.ref c))).guards = some [] → sp vs H Q E →
      ∃ t, PSs (cxOf CX0 P w K mg base N x (defScope st) f (.ref c) A outer s H E).nox (defBody st) t ∧ t { nx := fun _ H' => Q .non H', rt := Q } (L2.start N vs) H) : FnOkG P w K mg base (k + 1) f fd ps sp := by
  obtain ⟨oc, od, kV, doc, pm, an, ct, osl, rfl, lk, hcd⟩ := F.ex
  refine ⟨len, fun A outer s H args us vs Q E hr hg e0 hb r h => ?_⟩
  exact LamX.run_ofS lk hcd S hr e0 hb r (len _ _ _ _ h) fun hr' => by
    obtain ⟨t, ht, hq⟩ := hbody A outer s H vs Q E hr' hg h
    exact ⟨t, ht.nox, hq⟩
structure CanG (P : Program) (w : World) (K : PySem.W.Frag) (mg : Str → Option Value) (base : Heap) (k : Nat) (x : Str) (ps : List Str) (S : MC) : Prop where
  ex : ∃ f fd, mg x = some (.ref f) ∧ PySem.W.keepIn K (.ref f) = true ∧ Binds K fd ps [] ∧ FnOkG P w K mg base k f fd ps (spD K ps.length S)
theorem de_fnG {k : Nat} {x : Str} {ps : List Str} {S : MC} {p pos : Pos} {e : Expr} {es : List Expr} {t : MA} (c : CanG X.prog X.w X.K X.mg X.base k x ps S) (hr : Room k X.A) (hgd : X.A.guards = some []) (ha : DA K X (e :: es) t) (hK : X.K = K := by rfl) (hg : Gl X x := by rfl) (hdb : (x == ("__debug__" : Str)) = false := by decide)
    (he : starEach (e :: es) X.env = (false, eval e X.env) :: starEach es X.env := by rfl) (hpl : (backTo pos (starEach es X.env)).any (·.1) = false := by rfl) : DE K X (.Call (.Name x p) (e :: es) [] pos) (mFn ps.length S t) := by
  subst hK
  obtain ⟨f, fd, hm, kp, hb, ok⟩ := c.ex
  have base : PE X (.Call (.Name x p) (e :: es) [] pos) (tCall (spD X.K ps.length S) [] E0 (lA X.K t)) := by
    refine ⟨fun pins s σ H Q I h => wpAny_Call_Name_kw (ld_glob I hg hm (PySem.W.callWith_K (h₀ := X.base) I.ok.mod.kin kp (thn (ha.run pos pins s σ H _ I h) fun us s1 ⟨vs, H1, I1, r, q⟩ => ⟨I1.kIn, ?_⟩) he hpl) hdb)⟩
    have q' : spD X.K ps.length S vs H1 Q E0 := by rw [← List.append_nil vs]; exact q
    have hl : us.length = ps.length := by rw [← r.length]; exact ok.len _ _ _ _ q'
    have bd := hb s1 us I1.kIn (by rw [List.append_nil]; exact hl)
    rw [List.append_nil] at bd
    refine wpAny_call (codeAny_mono (ok.run X.A X.stack s1 H1 ⟨us, []⟩ us vs Q E0 hr hgd I1.env0 bd r q') fun rr s2 hq => ?_)
    match rr, hq with
    | .error _, hq => exact (show False from hq).elim
    | .ok (.ret u), hq => exact I1.after hq
    | .ok .next, hq => exact (show False from hq).elim
    | .ok .brk, hq => exact (show False from hq).elim
    | .ok .cont, hq => exact (show False from hq).elim
  refine PE_imp base fun σ H Q ⟨μ, ρ, st, Qd, he, hs, hm, k⟩ => ?_
  refine ⟨μ, ρ, st, _, he, hs, hm, fun ds st1 vs μ1 H1 q1 r1 s1 g1 => ?_⟩
  exact ⟨by rw [List.append_nil, ← r1.length]; exact q1.1, μ1, st1, ds, Qd, by rw [List.append_nil]; exact r1, s1, q1.2, k.to g1⟩
theorem fnG {P : Program} {w : World} {mg : Str → Option Value} {base : Heap} {x : Str} {st : Stmt} {f c : Addr} {fd : FuncData} {N ps : List Str} {k : Nat} {S : MC} {m : MS} (F : FunC K x st f fd c) (Sc : FnScope N ps (defScope st))
    (hb : ∀ (A : Around) (outer : List PySem.Env) (s : Shared) (H : Hp) (E : XK), Room k (A.deeper (envOfC x (defScope st) s.heap.objs.size f (.ref c))) → (A.deeper (envOfC x (defScope st) s.heap.objs.size f (.ref c))).guards = some [] → DSs K (cxOf CX0 P w K mg base N x (defScope st) f (.ref c) A outer s H E).nox (defBody st) m)
    (hm : ∀ st0 ds Qd, ds.length = ps.length → S st0 ds Qd → m (startD N ds) st0 { nx := fun _ st1 => exitF st0 Qd .non st1, rt := exitF st0 Qd }) : FnOkG P w K mg base (k + 1) f fd ps (spD K ps.length S) := by
  refine F.okG Sc (fun vs H Q E h => h.1) fun A outer s H vs Q E hr hg h => ⟨_, hb A outer s H E hr hg, ?_⟩
  obtain ⟨hl, μ, st0, ds, Qd, r, s0, q, kk⟩ := h
  have kx := exitF_cont s0 kk
  refine ⟨μ, startD N ds, st0, _, start_eq r, s0, hm st0 ds Qd (by rw [r.length]; exact hl) q, ⟨fun ρ st1 σ μ' H' q1 e1 s1 g1 => ?_, kx, fun ρ st1 σ μ' H' q1 e1 s1 g1 => q1.elim, fun ρ st1 σ μ' H' q1 e1 s1 g1 => q1.elim⟩⟩
  exact (kx.to g1).at q1 (.non _ _) s1
end
end DL
set_option Elab.async false
set_option linter.all false
set_option maxRecDepth 100000
set_option maxHeartbeats 2000000
namespace DL
open PySem PySem.Spec PyProof.Rows L2 Nf
section
variable {K : PySem.W.Frag} {X : Cx} {a b c : Expr} {f g h : ME} {pos : Pos}
theorem hu1 {k : Nat} {A : Around} (r : Room k A) : A.units + 1 < cLine := by have := r.units; omega
theorem dv (i : Nat) {x : Str} {pos : Pos} (hN : X.N[i]? = some x := by rfl) (hv : Vis X.env.scope x := by first | exact Or.inl rfl | exact Or.inr (Or.inl rfl) | exact Or.inr (Or.inr rfl)) (hd : (x == ("__debug__" : Str)) = false := by decide)
    (hcd : (x == ("__classdict__" : Str)) = false := by decide) : DE K X (.Name x pos) (mNm i) := de_nm hN hv hd hcd
/-! chains, is None -/
def mChain (m m' : MO) (f g h : ME) : ME := fun ρ st Q => f ρ st fun x st1 => g ρ st1 fun y st2 => m st2 x y fun z st3 => isB z fun k => if k = true then h ρ st3 fun w st4 => m' st4 y w Q else Q (.bl false) st3
theorem lE_chain {m m' : MO} {σ : L2.St} {H : Hp} {Q : VK} (hh : lE K (mChain m m' f g h) σ H Q) : tChain (lO K m) (lO K m') (lE K f) (lE K g) (lE K h) σ H Q := by
  obtain ⟨μ, ρ, st, Qd, he, hs, hm, k⟩ := hh
  refine ⟨μ, ρ, st, _, he, hs, hm, fun d1 st1 v1 μ1 H1 q1 r1 s1 g1 => ⟨μ1, ρ, st1, _, he.go g1, s1, q1, fun d2 st2 v2 μ2 H2 q2 r2 s2 g2 => ⟨μ2, st2, d1, d2, _, r1.go g2, r2, s2, q2, fun d3 st3 v3 μ3 H3 q3 r3 s3 g3 => ?_⟩⟩⟩
  obtain ⟨b, rfl, rfl, q⟩ := r3.bl_of q3
  have g123 := (g1.trans g2).trans g3
  refine ⟨b, rfl, ?_⟩
  cases b with
  | true => exact iteT ⟨μ3, ρ, st3, _, he.go g123, s3, by simpa using q, fun d4 st4 v4 μ4 H4 q4 r4 s4 g4 => ⟨μ4, st4, d2, d4, Qd, (r2.go g3).go g4, r4, s4, q4, k.to (g123.trans g4)⟩⟩
  | false => exact iteF ((k.to g123).at (by simpa using q) (.bl _ _ _) s3)
theorem de_chain {op op' : CmpOp} {m m' : MO} (ho : OpR X (compareOp op) (lO K m)) (ho' : OpR X (compareOp op') (lO K m')) (ha : DE K X a f) (hb : DE K X b g) (hc : DE K X c h) (hm : lastMarks [op, op'] [b, c] = false := by with_unfolding_all rfl) : DE K X (.Compare a [op, op'] [b, c] pos) (mChain m m' f g h) :=
  PE_imp (pe_chain ho ho' ha hb hc hm) fun _ _ _ h => lE_chain h
theorem dt_chain {op op' : CmpOp} {m m' : MO} (ho : OpR X (compareOp op) (lO K m)) (ho' : OpR X (compareOp op') (lO K m')) (ha : DE K X a f) (hb : DE K X b g) (hc : DE K X c h) (hm : lastMarks [op, op'] [b, c] = false := by with_unfolding_all rfl) : DT K X (.Compare a [op, op'] [b, c] pos) (mTv (mChain m m' f g h)) :=
  PT_imp (pt_chain ho ho' ha hb hc hm) fun σ H Q ⟨μ, ρ, st, Qd, he, hs, hm, k⟩ => lE_chain ⟨μ, ρ, st, _, he, hs, hm, fun d1 st1 v1 μ1 H1 q1 r1 s1 g1 => by
    obtain ⟨b, rfl, rfl, q⟩ := r1.bl_of q1
    exact ⟨b, rfl, (k.to g1).at q s1⟩⟩
def isNon : D → Bool
  | .non => true
  | _ => false
def rawless : D → Bool
  | .raw _ => false
  | _ => true
theorem Rp.isNon {H : Hp} {μ : Mu} {d : D} {v : V} (r : Rp K H μ d v) (h : rawless d = true) : decide (v = .non) = isNon d := by
  cases d <;> simp only [rawless] at h <;> (try cases h) <;> simp only [Rp] at r
  all_goals first
    | (subst r; rfl)
    | (obtain ⟨_, _, rfl, _⟩ := r; rfl)
    | (obtain ⟨_, _, _, rfl, _⟩ := r; rfl)
    | (obtain ⟨_, rfl, _⟩ := r; rfl)
def oIsN (neg : Bool) : MO := fun st a b Q => match b with
  | .non => rawless a = true ∧ Q (.bl (neg != isNon a)) st
  | _ => False
theorem do_isN : OpR X (compareOp .Is) (lO K (oIsN false)) := by
  refine OpR_imp op_isN fun x y H Q ⟨μ, st, a, b, Qd, ra, rb, s, hm, k⟩ => ?_
  unfold oIsN at hm
  split at hm
  · simp only [Rp] at rb
    refine ⟨rb, ?_⟩
    rw [ra.isNon hm.1]
    refine k.at (d := .bl (isNon a)) ?_ (.bl _ _ _) s
    simpa using hm.2
  · exact hm.elim
theorem do_notN : OpR X (compareOp .IsNot) (lO K (oIsN true)) := by
  refine OpR_imp op_notN fun x y H Q ⟨μ, st, a, b, Qd, ra, rb, s, hm, k⟩ => ?_
  unfold oIsN at hm
  split at hm
  · simp only [Rp] at rb
    refine ⟨rb, ?_⟩
    rw [ra.isNon hm.1]
    refine k.at (d := .bl (!isNon a)) ?_ (.bl _ _ _) s
    simpa using hm.2
  · exact hm.elim
end
/-! ### data without cells -/
mutual
def pl : D → Bool
  | .lst xs => plL xs
  | .frl xs => plL xs
  | .tup xs => plL xs
  | .dic kvs => plK kvs
  | .dit kvs => plT kvs
  | .ins _ fs => plF fs
  | .cel _ => false
  | _ => true
def plL : List D → Bool
  | [] => true
  | d :: ds => pl d && plL ds
def plK : List (DK × D) → Bool
  | [] => true
  | p :: ds => plP p && plK ds
def plP : DK × D → Bool
  | (_, d) => pl d
def plT : List (List DK × D) → Bool
  | [] => true
  | p :: ds => plQ p && plT ds
def plQ : List DK × D → Bool
  | (_, d) => pl d
def plF : List (Str × D) → Bool
  | [] => true
  | p :: ds => plG p && plF ds
def plG : Str × D → Bool
  | (_, d) => pl d
end
mutual
theorem pl.clo (n : Nat) : ∀ {d : D}, pl d = true → Clo n d
  | .lst xs, h => by simp only [Clo]; exact plL.clo n (by simpa only [pl] using h)
  | .frl xs, h => by simp only [Clo]; exact plL.clo n (by simpa only [pl] using h)
  | .tup xs, h => by simp only [Clo]; exact plL.clo n (by simpa only [pl] using h)
  | .dic xs, h => by simp only [Clo]; exact plK.clo n (by simpa only [pl] using h)
  | .dit xs, h => by simp only [Clo]; exact plT.clo n (by simpa only [pl] using h)
  | .ins C xs, h => by simp only [Clo]; exact plF.clo n (by simpa only [pl] using h)
  | .cel k, h => by simp [pl] at h
  | .non, h => by simp only [Clo]
  | .bl b, h => by simp only [Clo]
  | .int b, h => by simp only [Clo]
  | .str b, h => by simp only [Clo]
  | .raw b, h => by simp only [Clo]
theorem plL.clo (n : Nat) : ∀ {ds : List D}, plL ds = true → CloL n ds
  | [], h => by simp only [CloL]
  | d :: ds, h => by
    rw [plL, Bool.and_eq_true] at h
    simp only [CloL]
    exact ⟨pl.clo n h.1, plL.clo n h.2⟩
theorem plK.clo (n : Nat) : ∀ {ds : List (DK × D)}, plK ds = true → CloK n ds
  | [], h => by simp only [CloK]
  | p :: ds, h => by
    rw [plK, Bool.and_eq_true] at h
    simp only [CloK]
    exact ⟨plP.clo n h.1, plK.clo n h.2⟩
theorem plP.clo (n : Nat) : ∀ {p : DK × D}, plP p = true → CloP n p
  | (_, d), h => by simp only [CloP]; exact pl.clo n (by simpa only [plP] using h)
theorem plT.clo (n : Nat) : ∀ {ds : List (List DK × D)}, plT ds = true → CloT n ds
  | [], h => by simp only [CloT]
  | p :: ds, h => by
    rw [plT, Bool.and_eq_true] at h
    simp only [CloT]
    exact ⟨plQ.clo n h.1, plT.clo n h.2⟩
theorem plQ.clo (n : Nat) : ∀ {p : List DK × D}, plQ p = true → CloQ n p
  | (_, d), h => by simp only [CloQ]; exact pl.clo n (by simpa only [plQ] using h)
theorem plF.clo (n : Nat) : ∀ {ds : List (Str × D)}, plF ds = true → CloF n ds
  | [], h => by simp only [CloF]
  | p :: ds, h => by
    rw [plF, Bool.and_eq_true] at h
    simp only [CloF]
    exact ⟨plG.clo n h.1, plF.clo n h.2⟩
theorem plG.clo (n : Nat) : ∀ {p : Str × D}, plG p = true → CloG n p
  | (_, d), h => by simp only [CloG]; exact pl.clo n (by simpa only [plG] using h)
end
theorem plL_map {α : Type} (f : α → D) (h : ∀ a, pl (f a) = true) : ∀ l : List α, plL (l.map f) = true
  | [] => rfl
  | a :: l => by rw [List.map_cons, plL, h a, plL_map f h l]; rfl
theorem plL_mapM {α : Type} (f : α → D) : ∀ l : List α, (∀ a ∈ l, pl (f a) = true) → plL (l.map f) = true
  | [], _ => rfl
  | a :: l, h => by rw [List.map_cons, plL, h a List.mem_cons_self, plL_mapM f l fun b hb => h b (List.mem_cons_of_mem _ hb)]; rfl
theorem plL_all : ∀ {ds : List D}, (∀ d ∈ ds, pl d = true) → plL ds = true
  | [], _ => rfl
  | d :: ds, h => by rw [plL, h d List.mem_cons_self, plL_all fun e he => h e (List.mem_cons_of_mem _ he)]; rfl
theorem plL_mem : ∀ {ds : List D}, plL ds = true → ∀ d ∈ ds, pl d = true
  | [], _, d, h => nomatch h
  | e :: ds, h, d, hd => by
    rw [plL, Bool.and_eq_true] at h
    rcases List.mem_cons.mp hd with z | z
    · rw [z]; exact h.1
    · exact plL_mem h.2 d z
theorem pl_strs (ls : List (List Nat)) : pl (.lst (ls.map D.str)) = true := by rw [pl]; exact plL_map _ (fun _ => rfl) ls
theorem pl_signs (l : List Nat) : pl (.lst (l.map fun c => .str [c])) = true := by rw [pl]; exact plL_map _ (fun _ => rfl) l
theorem fz1_pl {n : Nat} {st : Store} {d : D} (h : pl d = true) : fz1 n st d = d := by
  cases d <;> first | rfl | (simp [pl] at h)
theorem fz1L_pl {n : Nat} {st : Store} : ∀ {ds : List D}, plL ds = true → ds.map (fz1 n st) = ds
  | [], _ => rfl
  | d :: ds, h => by
    rw [plL, Bool.and_eq_true] at h
    rw [List.map_cons, fz1_pl h.1, fz1L_pl h.2]
theorem fz_pl {n : Nat} {st : Store} {d : D} (h : pl d = true) : fz n st d = d := by
  cases d with
  | tup xs =>
    show D.tup (xs.map (fz1 n st)) = _
    rw [fz1L_pl (by simpa only [pl] using h)]
  | cel k => simp [pl] at h
  | _ => rfl
/-! ### ends of defs -/
theorem exit_gen {st0 st : Store} {Qd : QD} {d d' : D} (hfz : fz st0.length st d = d') (hc : Clo st0.length d') (hold : ∀ (i : Nat) c, i < st0.length → st[i]? = some c → st0[i]? = some c ∨ CloC st0.length c) {st' : Store} (ht : st.take st0.length = st') (q : Qd d' st') : exitF st0 Qd d st := by
  unfold exitF
  rw [hfz, ht]
  exact ⟨hc, hold, q⟩
theorem take_ext (st0 ex : Store) : (st0 ++ ex).take st0.length = st0 := by simp
theorem old_ext {st0 ex : Store} : ∀ (i : Nat) c, i < st0.length → (st0 ++ ex)[i]? = some c → st0[i]? = some c ∨ CloC st0.length c := fun i c hi h => by
  rw [List.getElem?_append_left hi] at h
  exact .inl h
/-- plain data, the store as it was -/
theorem exit_pl {st0 : Store} {Qd : QD} {d : D} (h : pl d = true) (q : Qd d st0) : exitF st0 Qd d st0 :=
  exit_gen (fz_pl h) (pl.clo _ h) (fun i c _ e => .inl e) (List.take_length) q
/-- .. with cells of its own -/
theorem exit_plx {st0 : Store} (ex : Store) {Qd : QD} {d : D} (h : pl d = true) (q : Qd d st0) : exitF st0 Qd d (st0 ++ ex) :=
  exit_gen (fz_pl h) (pl.clo _ h) old_ext (take_ext _ _) q
theorem old_set {st0 ex : Store} {u : Nat} {cc : Cell} (hc : CloC st0.length cc) : ∀ (i : Nat) c, i < st0.length → (st0.set u cc ++ ex)[i]? = some c → st0[i]? = some c ∨ CloC st0.length c := fun i c hi h => by
  rw [List.getElem?_append_left (by rw [List.length_set]; exact hi)] at h
  by_cases e : u = i
  · subst e
    rw [List.getElem?_set_self hi] at h
    cases h
    exact .inr hc
  · rw [List.getElem?_set_ne e] at h
    exact .inl h
theorem take_set {st0 ex : Store} {u : Nat} {cc : Cell} : (st0.set u cc ++ ex).take st0.length = st0.set u cc := by
  rw [List.take_append_of_le_length (by rw [List.length_set]; exact Nat.le_refl _), List.take_of_length_le (by rw [List.length_set]; exact Nat.le_refl _)]
theorem exit_set {st0 : Store} (ex : Store) {u : Nat} {cc : Cell} {Qd : QD} {d : D} (h : pl d = true) (hc : CloC st0.length cc) (q : Qd d (st0.set u cc)) : exitF st0 Qd d (st0.set u cc ++ ex) :=
  exit_gen (fz_pl h) (pl.clo _ h) (old_set hc) take_set q
theorem fz1_cel {n k : Nat} {st : Store} {d : D} (h : ¬ k < n) (he : (match st[k]? with
    | some (.lst xs) => .lst xs
    | some (.dic kvs) => .dic kvs
    | some (.dit kvs) => .dit kvs
    | some (.ins C fs) => .ins C fs
    | _ => .cel k : D) = d) : fz n st (.cel k) = d := by
  show (if k < n then _ else _) = d
  rw [if_neg h]
  exact he
/-- an own list that is handed out -/
theorem exit_cell {st0 : Store} {ex : Store} {n : Nat} {xs : List D} {Qd : QD} (hn : st0.length ≤ n) (he : (st0 ++ ex)[n]? = some (.lst xs)) (h : plL xs = true) (q : Qd (.lst xs) st0) : exitF st0 Qd (.cel n) (st0 ++ ex) := by
  refine exit_gen (d' := .lst xs) ?_ (pl.clo _ (by rw [pl]; exact h)) old_ext (take_ext _ _) q
  exact fz1_cel (by omega) (by rw [he])
theorem exit_cellD {st0 : Store} {ex : Store} {n : Nat} {xs : List (DK × D)} {Qd : QD} (hn : st0.length ≤ n) (he : (st0 ++ ex)[n]? = some (.dic xs)) (h : plK xs = true) (q : Qd (.dic xs) st0) : exitF st0 Qd (.cel n) (st0 ++ ex) := by
  refine exit_gen (d' := .dic xs) ?_ (pl.clo _ (by rw [pl]; exact h)) old_ext (take_ext _ _) q
  exact fz1_cel (by omega) (by rw [he])
theorem exit_cellI {st0 : Store} {ex : Store} {n : Nat} {C : Addr} {fs : List (Str × D)} {Qd : QD} (hn : st0.length ≤ n) (he : (st0 ++ ex)[n]? = some (.ins C fs)) (h : plF fs = true) (q : Qd (.ins C fs) st0) : exitF st0 Qd (.cel n) (st0 ++ ex) := by
  refine exit_gen (d' := .ins C fs) ?_ (pl.clo _ (by rw [pl]; exact h)) old_ext (take_ext _ _) q
  exact fz1_cel (by omega) (by rw [he])
/-! ### loops and comprehensions -/
/-- [f a for a in l if p a], no draws -/
theorem lcD_pf {α : Type} {e : α → D} {l : List α} {p : α → Bool} {f : α → D} {g : MG} {t : MT} {m : ME} {G : Store → Prop} {ρ : Env} {st : Store}
    (h : ∀ a ∈ l, ∀ (K1 : QD) (K0 : Store → Prop), (if p a = true then K1 (f a) st else K0 st) → g (e a) ρ st fun ρ1 st1 => t ρ1 st1 fun b st2 => if b = true then m ρ1 st2 K1 else K0 st2) (hG : G st) :
    ∀ {Q : List D → Store → Prop}, Q ((l.filter p).map f) st → lcD g t m G ρ (l.map e) st Q := by
  induction l with
  | nil => intro Q hQ; exact ⟨hG, hQ⟩
  | cons a l ih =>
    intro Q hQ
    refine ⟨hG, h a List.mem_cons_self _ _ ?_⟩
    have ih' := @ih (fun b hb => h b (List.mem_cons_of_mem _ hb))
    by_cases hp : p a = true
    · rw [if_pos hp]
      refine ih' ?_
      rw [List.filter_cons_of_pos hp, List.map_cons] at hQ
      exact hQ
    · rw [if_neg hp]
      refine ih' ?_
      rw [List.filter_cons_of_neg hp] at hQ
      exact hQ
/-- [f a for a in l] -/
theorem lcD_m {α : Type} {e : α → D} {l : List α} {f : α → D} {g : MG} {m : ME} {G : Store → Prop} {ρ : Env} {st : Store}
    (h : ∀ a ∈ l, ∀ (K1 : QD), K1 (f a) st → g (e a) ρ st fun ρ1 st1 => m ρ1 st1 K1) (hG : G st) {Q : List D → Store → Prop} (hQ : Q (l.map f) st) : lcD g mYes m G ρ (l.map e) st Q := by
  have := lcD_pf (e := e) (l := l) (p := fun _ => true) (f := f) (g := g) (t := mYes) (m := m) (G := G) (ρ := ρ) (st := st) (fun a ha K1 K0 q => ?_) hG (Q := Q) (by rw [List.filter_eq_self.mpr (fun _ _ => rfl)]; exact hQ)
  · exact this
  · rw [if_pos rfl] at q
    have := h a ha K1 q
    show g (e a) ρ st fun ρ1 st1 => if true = true then m ρ1 st1 K1 else K0 st1
    simpa using this
/-- a comprehension that moves the store: R i ys st: i turns are done, ys made, the store is st -/
theorem lcD_rel {α : Type} {e : α → D} {g : MG} {t : MT} {m : ME} {G : Store → Prop} {ρ : Env} (R : Nat → List D → Store → Prop) : ∀ {l : List α} {st : Store} {i : Nat} {pre : List D} {Q : List D → Store → Prop}, R i pre st →
    (∀ (j : Nat) a ys st', l[j]? = some a → R (i + j) ys st' → G st' ∧ ∀ (K1 : QD) (K0 : Store → Prop), (∀ y st2, R (i + j + 1) (ys ++ [y]) st2 → K1 y st2) → (∀ st2, R (i + j + 1) ys st2 → K0 st2) → g (e a) ρ st' fun ρ1 st1 => t ρ1 st1 fun b st2 => if b = true then m ρ1 st2 K1 else K0 st2) →
    (∀ ys st', R (i + l.length) (pre ++ ys) st' → G st' ∧ Q ys st') → lcD g t m G ρ (l.map e) st Q
  | [], st, i, pre, Q, h0, hs, hd => by
    have := hd [] st (by simpa using h0)
    exact this
  | a :: l, st, i, pre, Q, h0, hs, hd => by
    obtain ⟨hG, h1⟩ := hs 0 a pre st rfl h0
    refine ⟨hG, h1 _ _ (fun y st2 r2 => ?_) (fun st2 r2 => ?_)⟩
    · refine lcD_rel R (i := i + 1) (pre := pre ++ [y]) r2 (fun j b ys st' hj r' => ?_) (fun ys st' r' => ?_)
      · have e1 : i + 1 + j = i + (j + 1) := by omega
        rw [e1] at r' ⊢
        exact hs (j + 1) b ys st' hj r'
      · refine hd (y :: ys) st' ?_
        rw [List.append_assoc] at r'
        have e1 : i + 1 + l.length = i + (a :: l).length := by rw [List.length_cons]; omega
        rw [e1] at r'
        exact r'
    · refine lcD_rel R (i := i + 1) (pre := pre) r2 (fun j b ys st' hj r' => ?_) (fun ys st' r' => ?_)
      · have e1 : i + 1 + j = i + (j + 1) := by omega
        rw [e1] at r' ⊢
        exact hs (j + 1) b ys st' hj r'
      · refine hd ys st' ?_
        have e1 : i + 1 + l.length = i + (a :: l).length := by rw [List.length_cons]; omega
        rw [e1] at r'
        exact r'
/-- for a in l: R i ρ st: i turns are done -/
theorem forD_rel {α : Type} {e : α → D} {g : MG} {m : MS} {G : Store → Prop} {De : DEnds} (R : Nat → Env → Store → Prop) : ∀ {l : List α} {ρ : Env} {st : Store} {i : Nat}, R i ρ st →
    (∀ (j : Nat) a ρ' st', l[j]? = some a → R (i + j) ρ' st' → G st' ∧ ∀ (N : QE), (∀ ρ2 st2, R (i + j + 1) ρ2 st2 → N ρ2 st2) → g (e a) ρ' st' fun ρ1 st1 => m ρ1 st1 { nx := N, rt := De.rt, bk := De.nx, ct := N }) →
    (∀ ρ' st', R (i + l.length) ρ' st' → G st' ∧ De.nx ρ' st') → forD g m G (l.map e) ρ st De
  | [], ρ, st, i, h0, hs, hd => hd ρ st h0
  | a :: l, ρ, st, i, h0, hs, hd => by
    obtain ⟨hG, h1⟩ := hs 0 a ρ st rfl h0
    refine ⟨hG, ?_⟩
    refine h1 (fun ρ2 st2 => forD g m G (l.map e) ρ2 st2 De) fun ρ2 st2 r2 => ?_
    refine forD_rel R (i := i + 1) r2 (fun j b ρ' st' hj r' => ?_) (fun ρ' st' r' => ?_)
    · have e1 : i + 1 + j = i + (j + 1) := by omega
      rw [e1] at r' ⊢
      exact hs (j + 1) b ρ' st' hj r'
    · have e1 : i + 1 + l.length = i + (a :: l).length := by rw [List.length_cons]; omega
      rw [e1] at r'
      exact hd ρ' st' r'
/-- two clauses, no draws -/
theorem lcD2_m {α : Type} {e : α → D} {l : List α} {F : α → List D} {g g1 : MG} {t t1 : MT} {w1 : MI} {m : ME} {vs1 : List Nat} {G : Store → Prop} {ρ : Env} {st : Store}
    (h : ∀ a ∈ l, ∀ (KK : List D → Store → Prop), KK (F a) st → g (e a) ρ st fun ρ1 st1 => t ρ1 st1 fun b st2 => if b = true then w1 ρ1 st2 fun ys G1 st3 => ys.length ≤ 1000 ∧ lcD g1 t1 m G1 (wipeD ρ1 vs1) ys st3 KK else KK [] st2) (hG : G st) :
    ∀ {Q : List D → Store → Prop}, Q ((l.map F).flatten) st → lcD2 g t w1 g1 t1 m vs1 G ρ (l.map e) st Q := by
  induction l with
  | nil => intro Q hQ; exact ⟨hG, hQ⟩
  | cons a l ih =>
    intro Q hQ
    refine ⟨hG, ?_⟩
    have ih' := @ih (fun b hb => h b (List.mem_cons_of_mem _ hb))
    have := h a List.mem_cons_self (fun zs st4 => lcD2 g t w1 g1 t1 m vs1 G ρ (l.map e) st4 fun us st5 => Q (zs ++ us) st5) (ih' (by simpa using hQ))
    exact this
end DL
set_option Elab.async false
set_option linter.all false
set_option maxRecDepth 100000
set_option maxHeartbeats 2000000
namespace DL
open PySem PySem.Spec PyProof.Rows L2 Nf
section
variable {K : PySem.W.Frag} {X : Cx} {pos : Pos}
/-! ### (a, b, ..) = a list, a tuple of that length -/
def gTupX (K : PySem.W.Frag) (n : Nat) (t : TGs) : TG := fun v σ H Q => ∃ a xs, v = .ref a ∧ (SqL K H a xs ∨ SqT K H a xs) ∧ xs.length = n ∧ t xs σ H Q
theorem pg_tupX {es : List Expr} {k : Nat} {t : TGs} {n : Nat} (hc : X.calm = true) (h : PGs X es t)
    (hn : (assignEach es X.env).length = n := by rfl) (hst : (assignEach es X.env).findIdx? (·.1) = none := by rfl) : PG X (.Tuple es k pos) (gTupX X.K n t) := by
  refine ⟨fun pins s σ H v u Q I r hw => ?_⟩
  obtain ⟨a, xs, e1, hq, hl, hw⟩ := hw
  subst e1
  cases r
  rcases hq with hq | hq
  · obtain ⟨its, rv, ht, hz⟩ := I.list hq
    rw [assign_Tuple]
    refine wpAny_bind (wpAny_standAt ?_)
    unfold unpack
    have hz' : (assignEach es X.env).length = its.toArray.size := by rw [hn, ← hl, rv.length, List.size_toArray]
    rw [hz', hst]
    refine wpAny_bind (wpAny_holding (PySem.W.kun_itemsOf (I.ok.hd hc) ht.isList fun h' hx => ?_))
    have I1 : L2.Inv X pins σ H { s with heap := h' } := I.kept (t' := s.toks) fun b o e => hx b o (Nat.ne_of_lt (Heap.lt_size e)) e
    exact h.run pins _ σ H xs _ Q I1 (by simpa using rv) hw
  · obtain ⟨its, rv, ht, hz⟩ := I.tuple hq
    refine assign_Tuple_tuple (I.ok.hd hc) ht (by simp [hn, ← hl, rv.length]) hst fun h' hx => ?_
    have I1 : L2.Inv X pins σ H { s with heap := h' } := I.kept (t' := s.toks) fun b o e => hx b o (Nat.ne_of_lt (Heap.lt_size e)) e
    exact h.run pins _ σ H xs _ Q I1 (by simpa using rv) hw
def gTup1 (n : Nat) (g : MGs) : MG := fun d ρ st Q => match dr st d with
  | .tup ds => ds.length = n ∧ g ds ρ st Q
  | .lst ds => ds.length = n ∧ g ds ρ st Q
  | _ => False
theorem lG_tupX {n : Nat} {T : TGs} {g : MGs} (h : ∀ vs σ H Q, lGs K g vs σ H Q → T vs σ H Q) {v : V} {σ : L2.St} {H : Hp} {Q : L2.St → Hp → Prop} (hh : lG K (gTup1 n g) v σ H Q) : gTupX K n T v σ H Q := by
  obtain ⟨μ, ρ, st, d, Qd, rr, he, hs, hm, kk⟩ := hh
  unfold gTup1 at hm
  split at hm
  · rename_i ds e
    obtain ⟨a, vs, rfl, h1, h2⟩ := rr.tupAt hs e
    exact ⟨a, vs, rfl, .inr h1, by rw [← h2.length]; exact hm.1, h _ _ _ _ ⟨μ, ρ, st, ds, Qd, h2, he, hs, hm.2, kk⟩⟩
  · rename_i ds e
    obtain ⟨a, vs, rfl, h1, h2⟩ := rr.lstAt hs e
    exact ⟨a, vs, rfl, .inl h1, by rw [← h2.length]; exact hm.1, h _ _ _ _ ⟨μ, ρ, st, ds, Qd, h2, he, hs, hm.2, kk⟩⟩
  · exact hm.elim
theorem dg_tup1 {es : List Expr} {n : Nat} {k : Nat} {r : MGs} (hc : X.calm = true) (h : DGs K X es r) (hK : X.K = K := by rfl)
    (hn : (assignEach es X.env).length = n := by rfl) (hst : (assignEach es X.env).findIdx? (·.1) = none := by rfl) : DG K X (.Tuple es k pos) (gTup1 n r) := by
  subst hK
  exact PG_imp (pg_tupX hc h hn hst) fun v σ H Q hh => lG_tupX (fun _ _ _ _ q => q) hh
theorem dg_tupG {es : List Expr} {n : Nat} {k : Nat} {t : TGs} (hc : X.calm = true) (h : PGs X es t) (hK : X.K = K := by rfl)
    (hn : (assignEach es X.env).length = n := by rfl) (hst : (assignEach es X.env).findIdx? (·.1) = none := by rfl) : PG X (.Tuple es k pos) (gTupX K n t) := by
  subst hK
  exact pg_tupX hc h hn hst
theorem tof_tup1 {n : Nat} {T : TGs} {g : MGs} {vs : List Nat} (h : TOfs K T g vs) : TOf K (gTupX K n T) (gTup1 n g) vs where
  of := fun v σ H Q hh => lG_tupX h.of hh
  ok := fun v σ H Q ⟨a, xs, e, h1, h2, q⟩ => ⟨a, xs, e, h1, h2, h.ok _ _ _ _ q⟩
/-! ### a, b = x, y of local names -/
def sPar (i j : Nat) (r : MA) : MS := fun ρ st De => r ρ st fun ds st1 => match ds with
  | [a, b] => De.nx ((ρ.set i (some a)).set j (some b)) st1
  | _ => False
theorem ds_par {i j : Nat} {x y : Str} {a b : Expr} {r : MA} {px py pt : Pos} {kt k2 pt2} (hc : X.calm = true) (hN : X.N.Nodup) (hi : X.N[i]? = some x) (hj : X.N[j]? = some y) (hij : i ≠ j)
    (hx : X.env.scope.names.lookup x = some .local) (hy : X.env.scope.names.lookup y = some .local) (ha : DA K X [a, b] r)
    (hw : swappedStores [.Tuple [.Name x px, .Name y py] kt pt] (.Tuple [a, b] k2 pt2) X.env = pure (some [x, y]) := by rfl)
    (hs : swapsWithSole [.Tuple [.Name x px, .Name y py] kt pt] (.Tuple [a, b] k2 pt2) pos.line X.env = pure false := by rfl) :
    DS K X (.Assign [.Tuple [.Name x px, .Name y py] kt pt] (.Tuple [a, b] k2 pt2) pos) (sPar i j r) :=
  PS_imp (ps_par hc hN hi hj hij hx hy ha hw hs) fun D σ H ⟨μ, ρ, st, De, he, s, hm, k⟩ => by
    refine ⟨μ, ρ, st, _, he, s, hm, fun ds st1 vs μ1 H1 q1 r1 s1 g1 => ?_⟩
    split at q1
    · obtain ⟨v, w, rfl, ra, rb⟩ := r1.two
      exact ⟨v, w, rfl, k.nx _ _ _ _ _ q1 (((he.go g1).set ra i).set rb j) s1 g1⟩
    · exact q1.elim
end
/-! ### small steps -/
theorem dr_of {st : Store} {n : Nat} {xs : List D} (h : st[n]? = some (.lst xs)) : dr st (.cel n) = .lst xs := by simp only [dr, h]
theorem isCel_of {st : Store} {n : Nat} {xs : List D} {Q : Nat → List D → Prop} (h : st[n]? = some (.lst xs)) (q : Q n xs) : isCel st (.cel n) Q := by
  unfold isCel; simp only [h]; exact q
theorem last_at (st : Store) (c : Cell) : (st ++ [c])[st.length]? = some c := by simp
theorem ext_at {st ex : Store} {n : Nat} {c : Cell} (h : st[n]? = some c) : (st ++ ex)[n]? = some c := by
  rw [List.getElem?_append_left (List.getElem?_eq_some_iff.mp h).1]; exact h
theorem set_last (st : Store) (c d : Cell) : (st ++ [c]).set st.length d = st ++ [d] := by
  rw [List.set_append_right _ _ (Nat.le_refl _), Nat.sub_self]; rfl
theorem set_ext {st ex : Store} {n : Nat} {c d : Cell} (h : st[n]? = some c) : (st ++ ex).set n d = st.set n d ++ ex := by
  rw [List.set_append_left _ _ (List.getElem?_eq_some_iff.mp h).1]
theorem joinM_signs : ∀ l : List Nat, joinM [] (l.map fun c => [c]) = l := fun l => by
  unfold joinM
  rw [joinL_nil, flat1]
end DL
set_option Elab.async false
set_option linter.all false
set_option maxRecDepth 100000
set_option maxHeartbeats 2000000
namespace DL
open PySem PySem.Spec PyProof.Rows L2 Nf
/-! ### a dict locked while it is gone through -/
def isD : HO → Prop
  | .lst _ => True
  | .tup _ => True
  | .dK _ => True
  | .dT _ => True
  | .ins _ _ _ => True
  | _ => False
/-- data that stand in the one heap stand in the other one; what is frozen may be so no more -/
structure TrW (H : Hp) (μ : Mu) (H' : Hp) (μ' : Mu) : Prop where
  cel : ∀ (n : Nat) a, μ.c[n]? = some a → μ'.c[n]? = some a
  rd : ∀ a o, μ.off a → isD o → Rd H a o → μ'.off a ∧ Rd H' a o
  ins : ∀ a C dx fs, μ.off a → H a = some (.ins C dx fs) → H' a = some (.ins C dx fs)
  own : ∀ a dx, μ.off dx → H dx = some (.own a) → μ'.off dx ∧ H' dx = some (.own a)
  lsx : ∀ a vs, μ.off a → H a = some (.lst vs) → H' a = some (.lst vs)
  ext : ∀ a φ, μ.off a → H a = some (.ext φ) → μ'.off a ∧ H' a = some (.ext φ)
theorem TrW.lst {K : PySem.W.Frag} {H H' : Hp} {μ μ' : Mu} (g : TrW H μ H' μ') {a : Addr} {vs : List V} (h : LstAt K H μ a vs) : LstAt K H' μ' a vs := by
  rcases h with ⟨n, h⟩ | h
  · exact .inl (g.rd a _ n trivial h)
  · exact .inr h
theorem TrW.tup {K : PySem.W.Frag} {H H' : Hp} {μ μ' : Mu} (g : TrW H μ H' μ') {a : Addr} {vs : List V} (h : TupAt K H μ a vs) : TupAt K H' μ' a vs := by
  rcases h with ⟨n, h⟩ | h
  · exact .inl (g.rd a _ n trivial h)
  · exact .inr h
section
variable {K : PySem.W.Frag} {H H' : Hp} {μ μ' : Mu}
mutual
theorem Rp.trw (g : TrW H μ H' μ') : ∀ {d : D} {v : V}, Rp K H μ d v → Rp K H' μ' d v
  | .non, v, h => by simp only [Rp] at h ⊢; exact h
  | .bl b, v, h => by simp only [Rp] at h ⊢; exact h
  | .int i, v, h => by simp only [Rp] at h ⊢; exact h
  | .str l, v, h => by simp only [Rp] at h ⊢; exact h
  | .lst xs, v, h => by
    simp only [Rp] at h ⊢
    obtain ⟨a, vs, rfl, n, h1, h2⟩ := h
    exact ⟨a, vs, rfl, (g.rd a (.lst vs) n trivial (.inl h1)).1, g.lsx a vs n h1, RpL.trw g h2⟩
  | .frl xs, v, h => by
    simp only [Rp] at h ⊢
    obtain ⟨a, vs, rfl, h1, h2⟩ := h
    exact ⟨a, vs, rfl, g.lst h1, RpL.trw g h2⟩
  | .tup xs, v, h => by
    simp only [Rp] at h ⊢
    obtain ⟨a, vs, rfl, h1, h2⟩ := h
    exact ⟨a, vs, rfl, g.tup h1, RpL.trw g h2⟩
  | .dic kvs, v, h => by
    simp only [Rp] at h ⊢
    obtain ⟨a, vs, rfl, n, h1, h2⟩ := h
    exact ⟨a, vs, rfl, (g.rd a (.dK vs) n trivial h1).1, (g.rd a (.dK vs) n trivial h1).2, RpK.trw g h2⟩
  | .dit kvs, v, h => by
    simp only [Rp] at h ⊢
    obtain ⟨a, vs, rfl, n, h1, h2⟩ := h
    exact ⟨a, vs, rfl, (g.rd a (.dT vs) n trivial h1).1, (g.rd a (.dT vs) n trivial h1).2, RpT.trw g h2⟩
  | .ins C fs, v, h => by
    simp only [Rp] at h ⊢
    obtain ⟨a, dx, vs, rfl, n, n2, h1, hd, h2⟩ := h
    have q := g.own a dx n2 hd
    exact ⟨a, dx, vs, rfl, (g.rd a (.ins C dx vs) n trivial (.inl h1)).1, q.1, g.ins a C dx vs n h1, q.2, RpF.trw g h2⟩
  | .cel n, v, h => by
    simp only [Rp] at h ⊢
    obtain ⟨a, rfl, h1⟩ := h
    exact ⟨a, rfl, g.cel n a h1⟩
  | .raw x, v, h => by simp only [Rp] at h ⊢; exact h
theorem RpL.trw (g : TrW H μ H' μ') : ∀ {ds : List D} {vs : List V}, RpL K H μ ds vs → RpL K H' μ' ds vs
  | [], _, h => by simp only [RpL] at h ⊢; exact h
  | d :: ds, _, h => by
    simp only [RpL] at h ⊢
    obtain ⟨v, r, e, h1, h2⟩ := h
    exact ⟨v, r, e, Rp.trw g h1, RpL.trw g h2⟩
theorem RpK.trw (g : TrW H μ H' μ') : ∀ {ds : List (DK × D)} {vs : List (Key × V)}, RpK K H μ ds vs → RpK K H' μ' ds vs
  | [], _, h => by simp only [RpK] at h ⊢; exact h
  | p :: ds, _, h => by
    simp only [RpK] at h ⊢
    obtain ⟨v, r, e, h1, h2⟩ := h
    exact ⟨v, r, e, RpP.trw g h1, RpK.trw g h2⟩
theorem RpP.trw (g : TrW H μ H' μ') : ∀ {p : DK × D} {v : V}, RpP K H μ p v → RpP K H' μ' p v
  | (_, d), v, h => by simp only [RpP] at h ⊢; exact Rp.trw g h
theorem RpT.trw (g : TrW H μ H' μ') : ∀ {ds : List (List DK × D)} {vs : List (List Key × V)}, RpT K H μ ds vs → RpT K H' μ' ds vs
  | [], _, h => by simp only [RpT] at h ⊢; exact h
  | p :: ds, _, h => by
    simp only [RpT] at h ⊢
    obtain ⟨v, r, e, h1, h2⟩ := h
    exact ⟨v, r, e, RpQ.trw g h1, RpT.trw g h2⟩
theorem RpQ.trw (g : TrW H μ H' μ') : ∀ {p : List DK × D} {v : V}, RpQ K H μ p v → RpQ K H' μ' p v
  | (_, d), v, h => by simp only [RpQ] at h ⊢; exact Rp.trw g h
theorem RpF.trw (g : TrW H μ H' μ') : ∀ {ds : List (Str × D)} {vs : List (Str × V)}, RpF K H μ ds vs → RpF K H' μ' ds vs
  | [], _, h => by simp only [RpF] at h ⊢; exact h
  | p :: ds, _, h => by
    simp only [RpF] at h ⊢
    obtain ⟨v, r, e, h1, h2⟩ := h
    exact ⟨v, r, e, RpG.trw g h1, RpF.trw g h2⟩
theorem RpG.trw (g : TrW H μ H' μ') : ∀ {p : Str × D} {v : V}, RpG K H μ p v → RpG K H' μ' p v
  | (_, d), v, h => by simp only [RpG] at h ⊢; exact Rp.trw g h
end
end

section
variable {K : PySem.W.Frag} {H H' : Hp} {μ μ' : Mu}
theorem RpC.trw {a : Addr} (g : TrW H μ H' μ') (hs : H a = H' a) : ∀ {c : Cell}, RpC K H μ a c → (∀ P q, c = .tab P q → H P = H' P) → RpC K H' μ' a c
  | .lst _, ⟨vs, h, r⟩, _ => ⟨vs, hs ▸ h, r.trw g⟩
  | .dic _, ⟨vs, h, r⟩, _ => ⟨vs, hs ▸ h, r.trw g⟩
  | .dit _, ⟨vs, h, r⟩, _ => ⟨vs, hs ▸ h, r.trw g⟩
  | .ins _ _, ⟨dx, vs, h, hd, n, r⟩, _ => ⟨dx, vs, hs ▸ h, (g.own _ dx n hd).2, (g.own _ dx n hd).1, r.trw g⟩
  | .tab P q, ⟨e, ps, h1, h2, h3⟩, hp => ⟨e, ps, by rw [← hp P q rfl]; exact h1, h2, fun pos cv hc => by
    obtain ⟨c, e1, n, e2⟩ := h3 pos cv hc
    have q := g.ext c _ n e2
    exact ⟨c, e1, q.1, q.2⟩⟩
theorem RpE.trw (g : TrW H μ H' μ') : ∀ {ρ : Env} {σ : L2.St}, RpE K H μ ρ σ → RpE K H' μ' ρ σ
  | [], [], h => trivial
  | none :: ρ, none :: σ, h => RpE.trw g (ρ := ρ) h
  | some d :: ρ, some v :: σ, h => ⟨h.1.trw g, RpE.trw g h.2⟩
/-- an object that is no cell is written otherwise: from o to o' -/
theorem RpS.other {st : Store} (s : RpS K H μ st) {d : Addr} {o' : HO} (n : μ.off d) (g : TrW H μ (upd H d o') μ) : RpS K (upd H d o') μ st := by
  refine ⟨s.len, s.nd, fun m a c h1 h2 => ?_, fun a ha => ?_, s.tab⟩
  · have ne : a ≠ d := fun z => n.1 (z ▸ List.mem_of_getElem? h1)
    have rc := s.at_ m a c h1 h2
    refine rc.trw g (by rw [upd_ne ne]) fun P q e => ?_
    subst e
    obtain ⟨e1, _⟩ := rc
    rw [← e1, upd_ne ne]
  · obtain ⟨n1, o, h1, il⟩ := s.hid a ha
    exact ⟨n1, o, by rw [upd_ne (fun (z : a = d) => n.2 (by rw [← z]; exact ha))]; exact h1, il⟩
theorem TrW.lock {d : Addr} {od : Obj} {vs : List (Key × V)} (h : H d = some (.dK vs)) : TrW H μ (upd H d (.frz od (.dK vs))) μ where
  cel := fun _ _ e => e
  rd := fun a o n i r => by
    refine ⟨n, ?_⟩
    by_cases e : a = d
    · subst e
      rcases r with r | ⟨ob, r⟩
      · rw [h] at r; cases r
        exact .inr ⟨od, upd_same⟩
      · rw [h] at r; cases r
    · rcases r with r | ⟨ob, r⟩
      · exact .inl (by rw [upd_ne e]; exact r)
      · exact .inr ⟨ob, by rw [upd_ne e]; exact r⟩
  ins := fun a C dx fs n r => by rw [upd_ne (fun z => by rw [z, h] at r; cases r)]; exact r
  own := fun a dx n r => ⟨n, by rw [upd_ne (fun z => by rw [z, h] at r; cases r)]; exact r⟩
  lsx := fun a xs n r => by rw [upd_ne (fun z => by rw [z, h] at r; cases r)]; exact r
  ext := fun a φ n r => ⟨n, by rw [upd_ne (fun z => by rw [z, h] at r; cases r)]; exact r⟩
theorem TrW.unlock {d : Addr} {od : Obj} {vs : List (Key × V)} (h : H d = some (.frz od (.dK vs))) : TrW H μ (upd H d (.dK vs)) μ where
  cel := fun _ _ e => e
  rd := fun a o n i r => by
    refine ⟨n, ?_⟩
    by_cases e : a = d
    · subst e
      rcases r with r | ⟨ob, r⟩
      · rw [h] at r; cases r; exact i.elim
      · rw [h] at r; cases r
        exact .inl upd_same
    · rcases r with r | ⟨ob, r⟩
      · exact .inl (by rw [upd_ne e]; exact r)
      · exact .inr ⟨ob, by rw [upd_ne e]; exact r⟩
  ins := fun a C dx fs n r => by rw [upd_ne (fun z => by rw [z, h] at r; cases r)]; exact r
  own := fun a dx n r => ⟨n, by rw [upd_ne (fun z => by rw [z, h] at r; cases r)]; exact r⟩
  lsx := fun a xs n r => by rw [upd_ne (fun z => by rw [z, h] at r; cases r)]; exact r
  ext := fun a φ n r => ⟨n, by rw [upd_ne (fun z => by rw [z, h] at r; cases r)]; exact r⟩
end
def keyOf : DK → D
  | .inl i => .int i
  | .inr l => .str l
section
variable {K : PySem.W.Frag} {X : Cx}
theorem wk_keys {H : Hp} {μ : Mu} {d : Addr} {od : Obj} {vs : List (Key × V)} {kvs : List (DK × D)} (n : μ.off d) (h : H d = some (.frz od (.dK vs))) (r : RpK K H μ kvs vs) : Wk K H μ (Itk d od vs) (kvs.map fun p => keyOf p.1) fun _ => True where
  goes := fun i H' μ' st hi g s _ => by
    rw [List.length_map, r.length] at hi
    refine ⟨?_, hi⟩
    have := (g.rd d (.frz od (.dK vs)) n (fun _ z => by cases z) (.inl h)).2
    rcases this with q | ⟨ob, q⟩
    · exact q
    · exact absurd (g.rd d (.dK vs) n (fun _ z => by cases z) (.inr ⟨od, h⟩)).2 (fun z => by rcases z with z | ⟨_, z⟩ <;> rw [q] at z <;> cases z)
  stops := fun H' μ' st g s _ => by
    rw [List.length_map, r.length]
    refine ⟨?_, Nat.le_refl _⟩
    have := (g.rd d (.frz od (.dK vs)) n (fun _ z => by cases z) (.inl h)).2
    rcases this with q | ⟨ob, q⟩
    · exact q
    · exact absurd (g.rd d (.dK vs) n (fun _ z => by cases z) (.inr ⟨od, h⟩)).2 (fun z => by rcases z with z | ⟨_, z⟩ <;> rw [q] at z <;> cases z)
  yields := fun i x H' H'' μ' st dd hd g s _ ⟨e, k, v, hk, hx⟩ => by
    subst e hx
    refine ⟨.refl _ _, ?_⟩
    rw [List.getElem?_map] at hd
    cases q : kvs[i]? with
    | none => rw [q] at hd; cases hd
    | some p =>
      rw [q] at hd
      cases hd
      have : ∀ {ds : List (DK × D)} {vs : List (Key × V)} {i : Nat}, RpK K H μ ds vs → ds[i]? = some p → vs[i]? = some (k, v) → k = kk p.1 := by
        intro ds
        induction ds with
        | nil => intro vs i _ h1 _; simp at h1
        | cons a ds ih =>
          intro vs i h1 h2 h3
          simp only [RpK] at h1
          obtain ⟨w, r, rfl, _, h4⟩ := h1
          cases i with
          | zero => simp at h2 h3; rw [← h3.1, h2]
          | succ i => exact ih (i := i) h4 (by simpa using h2) (by simpa using h3)
      rw [this r q hk]
      obtain ⟨k', d'⟩ := p
      cases k' with
      | inl i => simp only [keyOf, kk, Rp]; rfl
      | inr l => simp only [keyOf, kk, Rp]; rfl
def mLcK (i : Nat) (g : MG) (t : MT) (f : ME) (vs : List Nat) : ME := fun ρ st Q => match ρ[i]? with
  | some (some (.dic kvs)) => kvs.length ≤ 1000000 ∧ lcD g t f (fun _ => True) (wipeD ρ vs) (kvs.map fun p => keyOf p.1) st fun ys st1 => Q (.lst ys) st1
  | _ => False
theorem PE_or {e : Expr} {t t' : TE} (h : PE X e t) (h' : PE X e t') : PE X e (fun σ H Q => t σ H Q ∨ t' σ H Q) := ⟨fun pins s σ H Q I q => q.elim (h.run pins s σ H Q I) (h'.run pins s σ H Q I)⟩
/-- the walk over the keys of what stands in slot i -/
def wKey (i : Nat) : MI := fun ρ st Q => match ρ[i]? with
  | some (some (.dic kvs)) => Q (kvs.map fun p => keyOf p.1) (fun _ => True) st
  | _ => False
variable {elt tg : Expr} {ifs : List Expr} {scope : Scope} {own : List (Str × Nat)} {pos ipos : Pos} {g : MG} {t : MT} {f : ME} {T : TG}
theorem de_lcK {i : Nat} {x : Str} (hc : X.calm = true) (hN : X.N.Nodup) (hx : PE X (.Name x ipos) (tVar i)) (ok : BlkOk X.N X.env.scope scope own) (hT : TOf K T g (own.map (·.2)))
    (hg : ∀ (s : Shared) (H : Hp) (C : Addr) (cl : List (Str × Addr)) (fp : List Addr), PG (X.blk s H scope (compEnvC scope cl C X.env) fp) tg T) (ht : ∀ (s : Shared) (H : Hp) (C : Addr) (cl : List (Str × Addr)) (fp : List Addr), PTs (X.blk s H scope (compEnvC scope cl C X.env) fp) ifs (lT K t))
    (he : ∀ (s : Shared) (H : Hp) (C : Addr) (cl : List (Str × Addr)) (fp : List Addr), DE K (X.blk s H scope (compEnvC scope cl C X.env) fp) elt f) (hs : ∀ y, foldedSetIterable (.Name x ipos) X.env y = pure y := by intro _; rfl) :
    DE K X (.ListComp elt [⟨tg, .Name x ipos, ifs, 0⟩] scope pos) (mLcK i g t f (own.map (·.2))) := by
  have base := pe_lc (pos := pos) hc hN (pi_keys hx) ok hg ht he hs
  refine PE_imp (PE_or (pe_lock base) base) fun σ H Q hh => ?_
  obtain ⟨μ, ρ, st, Qd, hee, s, hm, k⟩ := hh
  unfold mLcK at hm
  split at hm
  · rename_i kvs hρ
    obtain ⟨hlen, hm⟩ := hm
    obtain ⟨v, hv, rv⟩ := hee.get hρ
    simp only [Rp] at rv
    obtain ⟨d, vs, rfl, off, hd, rk⟩ := rv
    -- from the frozen dict on
    have core : ∀ (H' : Hp) (od : Obj) (Q' : VK), H' d = some (.frz od (.dK vs)) → RpE K H' μ ρ σ → RpS K H' μ st → Cont K H' μ Qd Q' → tLc (iKeys (tVar i)) T (lT K t) (lE K f) (own.map (·.2)) σ H' Q' := by
      intro H' od Q' hd' he' s' k'
      have h2 : lE K (fun ρ st Qd => wKey i ρ st fun xs G st1 => xs.length ≤ 1000000 ∧ lcD g t f G (wipeD ρ (own.map (·.2))) xs st1 fun ys st2 => Qd (.lst ys) st2) σ H' Q' := by
        refine ⟨μ, ρ, st, Qd, he', s', ?_, k'⟩
        unfold wKey
        simp only [hρ]
        exact ⟨by rw [List.length_map]; exact hlen, hm⟩
      have h3 := lc_lift (w := wKey i) (fun v σ H Q q => hT.of v _ H Q q) hT.tg fin_lst h2
      unfold tLc at h3 ⊢
      obtain ⟨μ2, ρ2, st2, Qi, he2, s2, hm2, k2⟩ := h3
      unfold wKey at hm2
      split at hm2
      · rename_i kvs2 hρ2
        obtain ⟨v2, hv2, rv2⟩ := he2.get hρ2
        rw [hv] at hv2
        cases hv2
        simp only [Rp] at rv2
        obtain ⟨d2, vs2, e2, off2, hd2, rk2⟩ := rv2
        cases e2
        have evs : vs2 = vs := by
          rcases hd2 with q | ⟨ob, q⟩ <;> rw [hd'] at q <;> cases q
          rfl
        subst evs
        refine ⟨.ref d, hv, d, od, rfl, .inl ⟨vs2, hd', ?_⟩⟩
        exact k2 _ _ _ _ _ _ hm2 (wk_keys off2 hd' rk2) s2 (.refl _ _)
      · exact hm2.elim
    rcases hd with hd | ⟨od, hd⟩
    · refine .inl ⟨d, .dK vs, hd, trivial, fun od => ?_⟩
      have tw : TrW H μ (upd H d (.frz od (.dK vs))) μ := .lock hd
      refine core _ od _ upd_same (hee.trw tw) (s.other off tw) fun dd st1 v1 μ1 H1 q1 r1 s1 g1 => ?_
      obtain ⟨n1, h1⟩ := g1.keep d _ upd_same off.1 (fun _ z => by cases z)
      have off1 : μ1.off d := ⟨n1, by rw [g1.hid]; exact off.2⟩
      have tu : TrW H1 μ1 (upd H1 d (.dK vs)) μ1 := .unlock h1
      refine ⟨h1, k _ _ _ _ _ q1 (r1.trw tu) (s1.other off1 tu) ⟨g1.pre, g1.hid, g1.tab, fun a o ha na nt => ?_⟩⟩
      by_cases e : a = d
      · subst e
        rw [hd] at ha; cases ha
        exact ⟨n1, upd_same⟩
      · obtain ⟨n2, h2⟩ := g1.keep a o (by rw [upd_ne e]; exact ha) na nt
        exact ⟨n2, by rw [upd_ne e]; exact h2⟩
    · exact .inr (core H od Q hd hee s k)
  · exact hm.elim
end
end DL
set_option Elab.async false
set_option linter.all false
set_option maxRecDepth 100000
set_option maxHeartbeats 2000000
namespace DL
open PySem PySem.Spec PyProof.Rows L2 Nf
/-! ### data that can be shown and compared -/
structure Sx (x : PyData) (dep wt : Nat) : Prop where
  sh : x.showable = true
  hd : x.hasDict = false
  dp : x.depth ≤ dep
  cl : x.canLay0 = true
  wt : x.weight ≤ wt
  is : x.intsShort 13 = true
theorem Sx.mono {x : PyData} {a b c d : Nat} (h : Sx x a b) (h1 : a ≤ c) (h2 : b ≤ d) : Sx x c d := ⟨h.sh, h.hd, Nat.le_trans h.dp h1, h.cl, Nat.le_trans h.wt h2, h.is⟩
theorem Sx.int {i : Int} (h : i.natAbs < 10 ^ 11) : Sx (.int i) 0 40 where
  sh := by
    show decide (i.natAbs.log2 < 1920) = true
    have : i.natAbs.log2 ≤ 40 := by
      by_cases z : i.natAbs = 0
      · rw [z]; decide
      · have := (Nat.log2_lt z (k := 37)).mpr (Nat.lt_trans h (by decide))
        omega
    exact decide_eq_true (by omega)
  hd := rfl
  dp := Nat.le_refl _
  cl := rfl
  wt := by
    show (if (i == 0) = true then 0 else i.natAbs.log2 + 1) ≤ 40
    split
    · omega
    · rename_i z
      have z' : i.natAbs ≠ 0 := fun q => z (by have : i = 0 := by omega
                                               simp [this])
      have := (Nat.log2_lt z' (k := 37)).mpr (Nat.lt_trans h (by decide))
      omega
  is := by
    show decide ((PyData.shown (.int i)).length ≤ 13) = true
    have h1 := int_text_length_le10 (k := 11) (by decide) h
    refine decide_eq_true ?_
    show (Str.ofString (toString i)).length ≤ 13
    have e : (Str.ofString (toString i)).length = (toString i).length := PySem.ofString_length _
    omega
def okL (l : List Nat) : Prop := ∀ c ∈ l, c < 0x110000
theorem Sx.str {l : List Nat} (h : okL l) : Sx (.str (tx l)) 0 l.length where
  sh := rfl
  hd := rfl
  dp := Nat.le_refl _
  cl := by
    show (tx l).cps.all (· < 0x110000) = true
    rw [← Array.all_toList, tx_toList]
    exact List.all_eq_true.mpr fun c hc => decide_eq_true (h c hc)
  wt := by show (tx l).cps.size ≤ _; rw [tx_size]; exact Nat.le_refl _
  is := rfl
theorem Sx.bl (b : Bool) : Sx (.bool b) 0 0 := ⟨rfl, rfl, Nat.le_refl _, rfl, Nat.le_refl _, rfl⟩
theorem Sx.non : Sx .none 0 0 := ⟨rfl, rfl, Nat.le_refl _, rfl, Nat.le_refl _, rfl⟩
theorem Sx.all {dep wt : Nat} : ∀ {xs : List PyData}, (∀ x ∈ xs, Sx x dep wt) → PyData.showableAll xs = true ∧ PyData.hasDictAll xs = false ∧ PyData.depthAll xs ≤ dep ∧ PyData.canLayAll0 xs = true ∧ PyData.weightAll xs ≤ xs.length * (wt + 1) ∧ PyData.intsShortAll 13 xs = true
  | [], _ => ⟨rfl, rfl, Nat.zero_le _, rfl, Nat.zero_le _, rfl⟩
  | x :: xs, h => by
    obtain ⟨a1, a2, a3, a4, a5, a6⟩ := Sx.all fun y hy => h y (List.mem_cons_of_mem _ hy)
    have b := h x List.mem_cons_self
    refine ⟨?_, ?_, ?_, ?_, ?_, ?_⟩
    · show (x.showable && PyData.showableAll xs) = true
      rw [b.sh, a1]; rfl
    · show (x.hasDict || PyData.hasDictAll xs) = false
      rw [b.hd, a2]; rfl
    · show max x.depth (PyData.depthAll xs) ≤ dep
      exact Nat.max_le.mpr ⟨b.dp, a3⟩
    · show (x.canLay0 && PyData.canLayAll0 xs) = true
      rw [b.cl, a4]; rfl
    · show x.weight + 1 + PyData.weightAll xs ≤ _
      have := b.wt
      rw [List.length_cons, Nat.add_mul]
      omega
    · show (x.intsShort 13 && PyData.intsShortAll 13 xs) = true
      rw [b.is, a6]; rfl
theorem Sx.list {dep wt : Nat} {xs : List PyData} (h : ∀ x ∈ xs, Sx x dep wt) : Sx (.list xs) (dep + 1) (xs.length * (wt + 1)) := by
  obtain ⟨a1, a2, a3, a4, a5, a6⟩ := Sx.all h
  exact ⟨a1, a2, Nat.succ_le_succ a3, a4, a5, a6⟩
theorem Sx.tuple {dep wt : Nat} {xs : List PyData} (h : ∀ x ∈ xs, Sx x dep wt) : Sx (.tuple xs) (dep + 1) (xs.length * (wt + 1)) := by
  obtain ⟨a1, a2, a3, a4, a5, a6⟩ := Sx.all h
  exact ⟨a1, a2, Nat.succ_le_succ a3, a4, a5, a6⟩
/-! of D -/
def SxD (dep wt : Nat) (d : D) : Prop := Dat d = true ∧ Sx (py d) dep wt
theorem SxD.mono {d : D} {a b a' b' : Nat} (h : SxD a b d) (h1 : a ≤ a') (h2 : b ≤ b') : SxD a' b' d := ⟨h.1, h.2.mono h1 h2⟩
theorem SxD.int {i : Int} (h : i.natAbs < 10 ^ 11) : SxD 0 40 (.int i) := ⟨rfl, .int h⟩
theorem SxD.str {l : List Nat} (h : okL l) : SxD 0 l.length (.str l) := ⟨rfl, .str h⟩
theorem SxD.bl (b : Bool) : SxD 0 0 (.bl b) := ⟨rfl, .bl b⟩
theorem SxD.non : SxD 0 0 .non := ⟨rfl, .non⟩
theorem pyL_map : ∀ ds : List D, pyL ds = ds.map py
  | [] => rfl
  | d :: ds => by rw [pyL, pyL_map ds]; rfl
theorem datL_all : ∀ {ds : List D}, (∀ d ∈ ds, Dat d = true) → DatL ds = true
  | [], _ => rfl
  | d :: ds, h => by rw [DatL, h d List.mem_cons_self, datL_all fun e he => h e (List.mem_cons_of_mem _ he)]; rfl
theorem SxD.lst {dep wt : Nat} {ds : List D} (h : ∀ d ∈ ds, SxD dep wt d) : SxD (dep + 1) (ds.length * (wt + 1)) (.lst ds) := by
  refine ⟨by rw [Dat]; exact datL_all fun d hd => (h d hd).1, ?_⟩
  have := Sx.list (xs := ds.map py) (dep := dep) (wt := wt) fun x hx => by
    obtain ⟨d, hd, rfl⟩ := List.mem_map.mp hx
    exact (h d hd).2
  rw [List.length_map] at this
  rw [py, pyL_map]
  exact this
theorem SxD.tup {dep wt : Nat} {ds : List D} (h : ∀ d ∈ ds, SxD dep wt d) : SxD (dep + 1) (ds.length * (wt + 1)) (.tup ds) := by
  refine ⟨by rw [Dat]; exact datL_all fun d hd => (h d hd).1, ?_⟩
  have := Sx.tuple (xs := ds.map py) (dep := dep) (wt := wt) fun x hx => by
    obtain ⟨d, hd, rfl⟩ := List.mem_map.mp hx
    exact (h d hd).2
  rw [List.length_map] at this
  rw [py, pyL_map]
  exact this
theorem SxD.showOk {dep wt : Nat} {d : D} (h : SxD dep wt d) (h1 : dep ≤ 60) (h2 : wt ≤ 1048576) : ShowOk (py d) := by
  obtain ⟨_, h⟩ := h
  have hdp := h.dp
  have hwt := h.wt
  refine ⟨h.sh, h.hd, by omega, ?_⟩
  have hl : (py d).layable0 = true := by
    unfold PyData.layable0
    rw [h.cl, decide_eq_true (show (py d).depth ≤ 64 by omega), decide_eq_true (show (py d).weight ≤ 2 ^ 20 from Nat.le_trans hwt h2)]; rfl
  have := shown_le13 hl h.is
  rw [sizeLine_eq]; omega
theorem SxD.shaped {dep wt : Nat} {d : D} (h : SxD dep wt d) (h1 : dep ≤ 64) : SeqAt.shaped (py d) = true := by
  unfold SeqAt.shaped
  rw [h.2.cl, decide_eq_true (Nat.le_trans h.2.dp h1)]; rfl
/-- lists of ints compared -/
theorem eqv_ints : ∀ ns ms : List Int, PyData.eqvAll (pyL (ns.map D.int)) (pyL (ms.map D.int)) = decide (ns = ms)
  | [], [] => by simp [pyL, PyData.eqvAll]
  | [], m :: ms => by simp [pyL, PyData.eqvAll]
  | l :: ls, [] => by simp [pyL, PyData.eqvAll]
  | l :: ls, m :: ms => by
    have ih := eqv_ints ls ms
    rw [List.map_cons, List.map_cons, pyL, pyL, PyData.eqvAll, ih, py, py, PyData.eqv]
    by_cases h : l = m
    · subst h; simp
    · simp [h]
theorem eqv_strs : ∀ ls ms : List (List Nat), PyData.eqvAll (pyL (ls.map D.str)) (pyL (ms.map D.str)) = decide (ls = ms)
  | [], [] => by simp [pyL, PyData.eqvAll]
  | [], m :: ms => by simp [pyL, PyData.eqvAll]
  | l :: ls, [] => by simp [pyL, PyData.eqvAll]
  | l :: ls, m :: ms => by
    have ih := eqv_strs ls ms
    rw [List.map_cons, List.map_cons, pyL, pyL, PyData.eqvAll, ih, py, py, PyData.eqv]
    by_cases h : l = m
    · subst h; simp
    · have : tx l ≠ tx m := fun e => h (tx_inj e)
      simp [h, this]
theorem oEq_ints {st : Store} {ns ms : List Int} {Q : QD} (h1 : ∀ n ∈ ns, n.natAbs < 10 ^ 11) (h2 : ∀ n ∈ ms, n.natAbs < 10 ^ 11) (q : Q (.bl (decide (ns = ms))) st) : oEq st (.lst (ns.map D.int)) (.lst (ms.map D.int)) Q := by
  have s1 : SxD 1 _ (.lst (ns.map D.int)) := .lst fun d hd => by obtain ⟨n, hn, rfl⟩ := List.mem_map.mp hd; exact .int (h1 n hn)
  have s2 : SxD 1 _ (.lst (ms.map D.int)) := .lst fun d hd => by obtain ⟨n, hn, rfl⟩ := List.mem_map.mp hd; exact .int (h2 n hn)
  refine ⟨⟨s1.1, s2.1, s1.shaped (by decide), s2.shaped (by decide)⟩, ?_⟩
  have e : PyData.eqv (py (.lst (ns.map D.int))) (py (.lst (ms.map D.int))) = decide (ns = ms) := by
    rw [py, py, PyData.eqv, eqv_ints]
  show Q (.bl (PyData.eqv (py (.lst (ns.map D.int))) (py (.lst (ms.map D.int))))) st
  rw [e]; exact q
theorem oNe_strs {st : Store} {ls ms : List (List Nat)} {Q : QD} (h1 : ∀ n ∈ ls, okL n ∧ n.length ≤ 1000) (h2 : ∀ n ∈ ms, okL n ∧ n.length ≤ 1000) (q : Q (.bl (!decide (ls = ms))) st) : oNe st (.lst (ls.map D.str)) (.lst (ms.map D.str)) Q := by
  have s1 : SxD 1 _ (.lst (ls.map D.str)) := .lst (wt := 1000) fun d hd => by obtain ⟨n, hn, rfl⟩ := List.mem_map.mp hd; exact (SxD.str (h1 n hn).1).mono (Nat.le_refl _) (h1 n hn).2
  have s2 : SxD 1 _ (.lst (ms.map D.str)) := .lst (wt := 1000) fun d hd => by obtain ⟨n, hn, rfl⟩ := List.mem_map.mp hd; exact (SxD.str (h2 n hn).1).mono (Nat.le_refl _) (h2 n hn).2
  refine ⟨⟨s1.1, s2.1, s1.shaped (by decide), s2.shaped (by decide)⟩, ?_⟩
  have e : PyData.eqv (py (.lst (ls.map D.str))) (py (.lst (ms.map D.str))) = decide (ls = ms) := by
    rw [py, py, PyData.eqv, eqv_strs]
  show Q (.bl (!PyData.eqv (py (.lst (ls.map D.str))) (py (.lst (ms.map D.str))))) st
  rw [e]; exact q
/-- repr of what can be shown -/
theorem cRepr_of {st : Store} {d : D} {dep wt : Nat} {Q : QD} (h0 : rowLike d = true) (h : SxD dep wt (dr st d)) (h1 : dep ≤ 60) (h2 : wt ≤ 1048576) (q : Q (.str (py (dr st d)).shown.cps.toList) st) : cRepr st [d] Q := ⟨⟨h0, h.1, h.showOk h1 h2⟩, q⟩
end DL
set_option Elab.async false
set_option linter.all false
set_option maxRecDepth 100000
set_option maxHeartbeats 2000000
/-! defs as values: the name of a def, and a call of a local that holds it -/
namespace DL
open PySem PySem.Spec PyProof.Rows L2 Nf
/-- what the name of a def gives -/
def fv (mg : Str → Option Value) (x : Str) : D := match mg x with
  | some (.ref f) => .raw (.ref f)
  | _ => .non
theorem fv_eq {mg : Str → Option Value} {x : Str} {f : Addr} (h : mg x = some (.ref f)) : fv mg x = .raw (.ref f) := by unfold fv; rw [h]
section
variable {X : Cx} {K : PySem.W.Frag} {k i : Nat} {x y : Str} {st : Stmt} {ps : List Str} {S : MC} {p pos : Pos} {e : Expr} {es : List Expr} {r : MA} {mg : Str → Option Value}
theorem de_gF (c : CanD X.prog X.w K mg X.base k x st ps S) (hM : X.mg = mg := by rfl) (hg : Gl X x := by rfl) (hd : (x == ("__debug__" : Str)) = false := by decide) : DE K X (.Name x pos) (mC (fv mg x)) := by
  subst hM
  obtain ⟨f, fd, hm, _⟩ := c.can.ex
  rw [fv_eq hm]
  exact de_raw (pe_glob hg hm rfl hd)
def mCallL (i : Nat) (d : D) (n : Nat) (S : MC) (r : MA) : ME := fun ρ st Q => ρ[i]? = some (some d) ∧ mFn n S r ρ st Q
theorem de_callL (c : CanD X.prog X.w K mg X.base k x st ps S) (hr : Room k X.A) (ha : DA K X (e :: es) r) (hN : X.N[i]? = some y := by rfl)
    (hv : Vis X.env.scope y := by first | exact Or.inl rfl | exact Or.inr (Or.inl rfl) | exact Or.inr (Or.inr rfl)) (hK : X.K = K := by rfl) (hM : X.mg = mg := by rfl)
    (hdb : (y == ("__debug__" : Str)) = false := by decide) (hcd : (y == ("__classdict__" : Str)) = false := by decide)
    (he : starEach (e :: es) X.env = (false, eval e X.env) :: starEach es X.env := by rfl) (hpl : (backTo pos (starEach es X.env)).any (·.1) = false := by rfl) : DE K X (.Call (.Name y p) (e :: es) [] pos) (mCallL i (fv mg x) ps.length S r) := by
  subst hK hM
  obtain ⟨f, fd, hm, F, hb, ok⟩ := c.can.ex
  refine PE_imp (pe_callL (i := i) (f := f) (dvs := []) (E := E0) ok hr hN hv F.kp hb .nil pass0 ha hdb hcd he hpl) fun σ H Q ⟨μ, ρ, st, Qd, hE, hs, hq, k⟩ => ?_
  rw [fv_eq hm] at hq
  obtain ⟨h1, h2⟩ := hq
  obtain ⟨v, g1, g2⟩ := hE.get h1
  simp only [Rp] at g2
  subst g2
  refine ⟨g1, μ, ρ, st, _, hE, hs, h2, fun ds st1 vs μ1 H1 q1 r1 s1 g1 => ?_⟩
  exact ⟨by rw [List.append_nil, ← r1.length]; exact q1.1, μ1, st1, ds, Qd, by rw [List.append_nil]; exact r1, s1, q1.2, k.to g1⟩
end
end DL
set_option Elab.async false
set_option linter.all false
set_option maxRecDepth 100000
set_option maxHeartbeats 2000000
/-! zip of two texts -/
namespace Nf
open PySem PySem.Spec PyProof.Rows L2
def Itzs (x y : Str) : It where
  go := fun i _ => i < min x.cps.size y.cps.size
  yld := fun i H v H' => ∃ T c d, (v = .ref T ∧ H T = none) ∧ H' = upd H T (.tup [.str ⟨#[c]⟩, .str ⟨#[d]⟩]) ∧ x.cps[i]? = some c ∧ y.cps[i]? = some d
  stop := fun i _ => i = min x.cps.size y.cps.size
/-- how the iterator's own five things stand at turn i -/
structure ZsAt (x y : Str) (t u : Tok) (b i : Nat) (h : Heap) : Prop where
  z : IsZip h (b + 4) (b + 2) (b + 3) .none
  ti : IsTupOf2 h (b + 2) (.ref b) (.ref (b + 1))
  to : ∃ p q, IsTupOf2 h (b + 3) p q
  fst : h.IsStrIter b (strIterType x) x t i
  snd : h.IsStrIter (b + 1) (strIterType y) y u i
abbrev fpZ (b : Nat) : List Addr := [b + 4, b + 2, b + 3, b, b + 1]
theorem fpZ_cases {b c : Nat} (h : c ∈ fpZ b) : c = b + 4 ∨ c = b + 2 ∨ c = b + 3 ∨ c = b ∨ c = b + 1 := by simpa [fpZ] using h
theorem fpZ_sub {b c : Nat} (h : c ∈ [b + 4, b + 3, b, b + 1]) : c ∈ fpZ b := by
  have h : c = b + 4 ∨ c = b + 3 ∨ c = b ∨ c = b + 1 := by simpa using h
  rcases h with rfl | rfl | rfl | rfl <;> simp [fpZ]
theorem zsep (b : Nat) : ZipSep2 (b + 4) (b + 2) (b + 3) b (b + 1) [b] [b + 1] := by constructor <;> simp
theorem ZsAt.lt {x y : Str} {t u : Tok} {b i : Nat} {h : Heap} (S : ZsAt x y t u b i h) {c : Nat} (hc : c ∈ fpZ b) : c < h.objs.size := by
  have q : (b + 4 : Nat) < h.objs.size := Heap.lt_size S.z
  have e : ∀ n : Nat, n ≤ b + 4 → n < h.objs.size := fun n hn => Nat.lt_of_le_of_lt hn q
  rcases fpZ_cases hc with z | z | z | z | z <;> rw [z] <;> exact e _ (by omega)
section
variable {P : Program} {w : World} {K : PySem.W.Frag} {elts : List Expr} {kk : Nat} {tpos : Pos} {x y : Str} {t u : Tok} {b : Nat}
theorem turn_zs : Turn P w K (.Tuple elts kk tpos) (Itzs x y) (fpZ b) (b + 4) (ZsAt x y t u b) where
  mem := List.mem_cons_self
  obj := fun i h S c hc => by
    obtain ⟨hz, hti, ⟨p, q, hto⟩, ⟨o1, e1, _, d1⟩, ⟨o2, e2, _, d2⟩⟩ := S
    rcases fpZ_cases hc with rfl | rfl | rfl | rfl | rfl
    · exact ⟨_, hz, fun _ z => nomatch z⟩
    · exact ⟨_, hti, fun _ z => nomatch z⟩
    · exact ⟨_, hto, fun _ z => nomatch z⟩
    · exact ⟨o1, e1, fun _ z => by rw [d1] at z; cases z⟩
    · exact ⟨o2, e2, fun _ z => by rw [d2] at z; cases z⟩
  keep := fun i h h' S k =>
    let ⟨p, q, e⟩ := S.to
    ⟨k _ (by simp) _ S.z, k _ (by simp) _ S.ti, ⟨p, q, k _ (by simp) _ e⟩, (let ⟨o, e, f⟩ := S.fst; ⟨o, k _ (by simp) o e, f⟩), (let ⟨o, e, f⟩ := S.snd; ⟨o, k _ (by simp) o e, f⟩)⟩
  item := by
    intro X eP ew eK calm i pins s σ H E I hf S hgo
    subst eP ew eK
    refine (GoesN.zip2 (prog := X.prog) (w := X.w) (A := X.A) (elts := elts) (x1 := kk) (pos := tpos) (zsep b) (.text (show X.A.in1.handled = none from I.ok.hd calm) b x t) (.text (show X.A.in1.handled = none from I.ok.hd calm) (b + 1) y u)).goes i s _ E hgo ⟨S.z, S.ti, S.to, S.fst, S.snd⟩ ?_
    rintro v h' tk ⟨T, v1, v2, rfl, hT, ⟨c, tc, hc, rfl⟩, ⟨d, td, hd, rfl⟩, o', lo, lc, ld⟩ ⟨z1, z2, z3, z4, z5⟩ hk htk
    have nw : ObjOk X.prog X.w (upd H T (.tup [.str ⟨#[c]⟩, .str ⟨#[d]⟩])) h' T (.tup [.str ⟨#[c]⟩, .str ⟨#[d]⟩]) :=
      ⟨by show 2 ≤ sizeLine; decide, [.str ⟨#[c]⟩ tc, .str ⟨#[d]⟩ td], .cons ⟨tc, rfl⟩ (.cons ⟨td, rfl⟩ .nil), ⟨o', lo, lc, ld⟩⟩
    have J := I.turnedNew (t' := tk) (ch := fpZ b) (fun a ob ha e => hk a ob (fun z => ha (fpZ_sub z)) e) hf hT nw
    refine ⟨.ref T, _, J, rfl, ⟨T, c, d, ⟨rfl, I.hok.fresh hT⟩, rfl, hc, hd⟩, ⟨z1, z2, z3, z4, z5⟩, fun a ha => ?_⟩
    rw [upd_ne (Nat.ne_of_lt (Nat.lt_of_lt_of_le (S.lt ha) hT))]
    exact (hf a ha).1
  done := by
    intro X eP ew eK calm i pins s σ H E I hf S hst
    subst eP ew eK
    have hst : i = min x.cps.size y.cps.size := hst
    subst hst
    refine (GoesN.zip2 (prog := X.prog) (w := X.w) (A := X.A) (elts := elts) (x1 := kk) (pos := tpos) (zsep b) (.text (show X.A.in1.handled = none from I.ok.hd calm) b x t) (.text (show X.A.in1.handled = none from I.ok.hd calm) (b + 1) y u)).stops s _ E ⟨S.z, S.ti, S.to, S.fst, S.snd⟩ ?_
    intro h' tk hk htk
    exact I.turnedL (t' := tk) (ch := fpZ b) (fun a ob ha e => hk a ob (fun z => ha (fpZ_sub z)) e) hf
  self := fun A i s Q E S q => wpAny_pyIter_zip S.z q
end
/-- values that are two texts -/
def iZs (ta : TA) : TI := fun σ H R => ta σ H fun vs H1 => ∃ x y, vs = [.str x, .str y] ∧ R (Itzs x y) H1
theorem pi_zs {X : Cx} {e e2 : Expr} {ta : TA} {p pos tpos : Pos} {elts : List Expr} {kk : Nat} (hg : Gl X "zip") (hm : X.mg "zip" = none) (ha : PA X [e, e2] ta)
    (hs : starEach [e, e2] X.env = (false, eval e X.env) :: starEach [e2] X.env := by rfl) (hpl : (backTo pos (starEach [e2] X.env)).any (·.1) = false := by rfl) : PI X (.Tuple elts kk tpos) (.Call (.Name "zip" p) [e, e2] [] pos) (iZs ta) := by
  refine ⟨fun pins s σ H R I h => Call_ (ld_blt I hg hm PyProof.Rows.boot_zip (PyProof.Rows.callWith_type1 (thn (ha.run pos pins s σ H _ I h) ?_) hs hpl))⟩
  rintro us s1 ⟨vs, H1, I1, rr, x, y, rfl, q⟩
  obtain ⟨v1, v2, rfl, ⟨t, rfl⟩, ⟨u, rfl⟩⟩ := vals2 rr
  refine zip_begins2 (begins_text x t) (begins_text y u) trivial trivial ?_
  intro h' hz hti hto h1 h2 hsz hk
  refine wpAny_pyIter_zip hz ?_
  have I2 : L2.Inv X pins σ H1 { s1 with heap := h' } := I1.kept (t' := s1.toks) hk
  refine ⟨s1.heap.objs.size + 4, fpZ s1.heap.objs.size, ZsAt x y t u s1.heap.objs.size, _, H1, rfl, I2, turn_zs, ⟨hz, hti, ⟨_, _, hto⟩, ⟨_, h1, rfl, rfl⟩, ⟨_, h2, rfl, rfl⟩⟩, fun c hc => ?_, q⟩
  have hle : s1.heap.objs.size ≤ c := by rcases fpZ_cases hc with e | e | e | e | e <;> omega
  exact I1.fpOk hle (I1.hok.fresh hle)
/-! enumerate of a text -/
def Ites (x : Str) : It where
  go := fun i _ => i < x.cps.size
  yld := fun i H v H' => ∃ T c, (v = .ref T ∧ H T = none) ∧ H' = upd H T (.tup [.int (0 + (i : Int)), .str ⟨#[c]⟩]) ∧ x.cps[i]? = some c
  stop := fun i _ => i = x.cps.size
structure EsAt (x : Str) (t : Tok) (b i : Nat) (h : Heap) : Prop where
  e : ∃ old, IsEnum h (b + 1) b (0 + (i : Int)) old
  src : h.IsStrIter b (strIterType x) x t i
theorem EsAt.lt {x : Str} {t : Tok} {b i : Nat} {h : Heap} (S : EsAt x t b i h) {c : Nat} (hc : c ∈ [b + 1, b]) : c < h.objs.size := by
  obtain ⟨old, e⟩ := S.e
  have q : (b + 1 : Nat) < h.objs.size := Heap.lt_size e
  have hc : c = b + 1 ∨ c = b := by simpa using hc
  rcases hc with z | z <;> rw [z]
  · exact q
  · exact Nat.lt_of_succ_lt q
section
variable {P : Program} {w : World} {K : PySem.W.Frag} {elts : List Expr} {kk : Nat} {tpos : Pos} {x : Str} {t : Tok} {b : Nat}
theorem turn_es : Turn P w K (.Tuple elts kk tpos) (Ites x) [b + 1, b] (b + 1) (EsAt x t b) where
  mem := List.mem_cons_self
  obj := fun i h S c hc => by
    obtain ⟨⟨old, he⟩, ⟨o1, e1, _, d1⟩⟩ := S
    have hc : c = b + 1 ∨ c = b := by simpa using hc
    rcases hc with rfl | rfl
    · exact ⟨_, he, fun _ z => nomatch z⟩
    · exact ⟨o1, e1, fun _ z => by rw [d1] at z; cases z⟩
  keep := fun i h h' S k =>
    let ⟨old, e⟩ := S.e
    ⟨⟨old, k _ (by simp) _ e⟩, (let ⟨o, e, f⟩ := S.src; ⟨o, k _ (by simp) o e, f⟩)⟩
  item := by
    intro X eP ew eK calm i pins s σ H E I hf S hgo
    subst eP ew eK
    have ne : (b + 1 : Nat) ∉ [b] := by simp
    refine (GoesN.enumFrom (prog := X.prog) (w := X.w) (A := X.A) (elts := elts) (x1 := kk) (pos := tpos) 0 (.text (show X.A.in1.handled = none from I.ok.hd calm) b x t) (b + 1) (by simp) ne (by simp)).goes i s _ E hgo ⟨S.e, S.src⟩ ?_
    rintro v h' tk ⟨T, ti, v1, rfl, hT, ⟨c, tc, hc, rfl⟩, o', lo, lc, ld⟩ ⟨z1, z2⟩ hk htk
    have nw : ObjOk X.prog X.w (upd H T (.tup [.int (0 + (i : Int)), .str ⟨#[c]⟩])) h' T (.tup [.int (0 + (i : Int)), .str ⟨#[c]⟩]) :=
      ⟨by show 2 ≤ sizeLine; decide, [.int (0 + (i : Int)) ti, .str ⟨#[c]⟩ tc], .cons ⟨ti, rfl⟩ (.cons ⟨tc, rfl⟩ .nil), ⟨o', lo, lc, ld⟩⟩
    have J := I.turnedNew (t' := tk) (ch := [b + 1, b]) (fun a ob ha e => hk a ob ha e) hf hT nw
    refine ⟨.ref T, _, J, rfl, ⟨T, c, ⟨rfl, I.hok.fresh hT⟩, rfl, hc⟩, ⟨z1, z2⟩, fun a ha => ?_⟩
    rw [upd_ne (Nat.ne_of_lt (Nat.lt_of_lt_of_le (S.lt ha) hT))]
    exact (hf a ha).1
  done := by
    intro X eP ew eK calm i pins s σ H E I hf S hst
    subst eP ew eK
    have hst : i = x.cps.size := hst
    subst hst
    have ne : (b + 1 : Nat) ∉ [b] := by simp
    refine (GoesN.enumFrom (prog := X.prog) (w := X.w) (A := X.A) (elts := elts) (x1 := kk) (pos := tpos) 0 (.text (show X.A.in1.handled = none from I.ok.hd calm) b x t) (b + 1) (by simp) ne (by simp)).stops s _ E ⟨S.e, S.src⟩ ?_
    intro h' tk hk htk
    exact I.turnedL (t' := tk) (ch := [b + 1, b]) (fun a ob ha e => hk a ob ha e) hf
  self := fun A i s Q E S q => let ⟨_, e⟩ := S.e; wpAny_pyIter_enum e q
end
/-- a value that is a text -/
def iEs (ta : TA) : TI := fun σ H R => ta σ H fun vs H1 => ∃ x, vs = [.str x] ∧ R (Ites x) H1
theorem pi_es {X : Cx} {e : Expr} {ta : TA} {p pos tpos : Pos} {elts : List Expr} {kk : Nat} (hg : Gl X "enumerate") (hm : X.mg "enumerate" = none) (ha : PA X [e] ta) (hs : starEach [e] X.env = [(false, eval e X.env)] := by rfl) :
    PI X (.Tuple elts kk tpos) (.Call (.Name "enumerate" p) [e] [] pos) (iEs ta) := by
  refine ⟨fun pins s σ H R I h => Call_ (ld_blt I hg hm boot_enumerate (PyProof.Rows.callWith_type1 (thn (ha.run pos pins s σ H _ I h) ?_) hs rfl))⟩
  rintro us s1 ⟨vs, H1, I1, rr, x, rfl, q⟩
  obtain ⟨v1, rfl, ⟨t, rfl⟩⟩ := vals1 rr
  refine enum_call1 (begins_text x t) trivial fun h' he hit hsz hk => wpAny_pyIter_enum he ?_
  have I2 : L2.Inv X pins σ H1 { s1 with heap := h' } := I1.kept (t' := s1.toks) hk
  refine ⟨s1.heap.objs.size + 1, [s1.heap.objs.size + 1, s1.heap.objs.size], EsAt x t s1.heap.objs.size, _, H1, rfl, I2, turn_es, ⟨⟨.none, he⟩, ⟨_, hit, rfl, rfl⟩⟩, fun c hc => ?_, q⟩
  have hc : c = s1.heap.objs.size + 1 ∨ c = s1.heap.objs.size := by simpa using hc
  have hle : s1.heap.objs.size ≤ c := by
    rcases hc with z | z <;> rw [z]
    · exact Nat.le_succ _
    · exact Nat.le_refl _
  exact I1.fpOk hle (I1.hok.fresh hle)
end Nf
set_option Elab.async false
set_option linter.all false
set_option maxRecDepth 100000
set_option maxHeartbeats 2000000
/-! list(zip(text, text)): the pairs that were given out are held, so each is new -/
namespace Nf
open PySem PySem.Spec PyProof.Rows L2
section
variable {prog : Program} {w : World} {A : Around} {E : Value → Shared → Prop} {s : Shared} {z TI TO i1 i2 T : Addr} {fp1 fp2 : List Addr} {n1 n2 i : Nat} {P1 P2 : Nat → Value → Prop} {St1 St2 : Nat → Heap → Prop} {f : Bool} {oT : Obj}
/-- a turn while the last pair is held -/
theorem zh_item {Q : Value → Shared → Prop} (S : ZipSep2 z TI TO i1 i2 fp1 fp2) (D1 : Draws prog w A i1 fp1 n1 P1 St1) (D2 : Draws prog w A i2 fp2 n2 P2 St2)
    (zz : IsZipHeld s.heap z TI TO T f) (live : s.heap.get? T = some oT) (zt : IsTupOf2 s.heap TI (.ref i1) (.ref i2)) (q1 : St1 i s.heap) (q2 : St2 i s.heap) (l1 : i < n1) (l2 : i < n2)
    (hQ : ∀ x1 x2 h' tk, P1 i x1 → P2 i x2 → IsZipHeld h' z TI TO T true → St1 (i + 1) h' → St2 (i + 1) h' → IsTupOf2 h' s.heap.objs.size x1 x2 → h'.objs.size = s.heap.objs.size + 1 →
      (∀ c o, c ≠ z → c ≠ i1 → c ≠ i2 → s.heap.get? c = some o → h'.get? c = some o) → Q (.ref s.heap.objs.size) { s with heap := h', toks := tk }) :
    wpAny (model prog w) A (Builtin.«zip.__next__» ⟨[.ref z], []⟩) (fun fin s' => ∃ v, fin = .done (.ret v) ∧ Q v s') E s := by
  obtain ⟨hp, gg, dd, k0, os⟩ := s
  have live : hp.get? T = some oT := live
  show wpAny _ _ (field (.ref z) 2 >>= _) _ _ _
  apply wpAny_bind
  apply wpAny_field zz rfl (x := .bool false) rfl
  show wpAny _ _ (field (.ref z) 3 >>= _) _ _ _
  apply wpAny_bind
  apply wpAny_field zz rfl (x := .ref TI) rfl
  apply wpAny_bind
  apply wpAny_seqItems zt rfl
  show wpAny _ _ (Builtin.SmallTypes.ownedTupleIsFree (.ref z) >>= _) _ _ _
  apply wpAny_bind
  apply wpAny_tupleHeld_zip zz live
  intro m0 zz0 sb0
  have sb0 : Heap.SameBut z hp m0 := sb0
  simp only [Bool.false_eq_true, if_false]
  apply wpAny_bind
  rw [← Array.forIn_toList]
  simp only [List.forIn_cons, List.forIn_nil]
  apply wpAny_bind
  apply wpAny_bind
  apply wpAny_holding
  show wpAny _ _ (Builtin.SmallTypes.nextOf (.ref i1) >>= _) _ _ ⟨m0, gg, dd, k0, os⟩
  apply wpAny_bind
  apply D1.item i _ _ _ l1 (D1.over q1 sb0 S.zf1)
  intro x1 m1 k1 p1 r1 sb1
  have sb1 : Heap.SameBut i1 m0 m1 := sb1
  apply wpAny_pure
  apply wpAny_pure
  apply wpAny_bind
  apply wpAny_bind
  apply wpAny_holding
  show wpAny _ _ (Builtin.SmallTypes.nextOf (.ref i2) >>= _) _ _ ⟨m1, gg, dd, k1, os⟩
  apply wpAny_bind
  apply D2.item i _ _ _ l2 (D2.over (D2.over q2 sb0 S.zf2) sb1 S.sep1_2)
  intro x2 m2 k2 p2 r2 sb2
  have sb2 : Heap.SameBut i2 m1 m2 := sb2
  apply wpAny_pure
  apply wpAny_pure
  apply wpAny_pure
  show wpAny _ _ (newTuple [x1, x2] >>= _) _ _ ⟨m2, gg, dd, k2, os⟩
  apply wpAny_bind
  refine wpAny_newTuple (?_)
  have sz : m2.objs.size = hp.objs.size := by rw [sb2.1, sb1.1, sb0.1]
  have zz2 : IsZipHeld m2 z TI TO T true := sb2.extBut _ _ S.zi2 (sb1.extBut _ _ S.zi1 zz0)
  have keeps : ∀ c o, c ≠ z → c ≠ i1 → c ≠ i2 → hp.get? c = some o → m2.get? c = some o := fun c o a1 a2 a3 e => sb2.extBut _ _ a3 (sb1.extBut _ _ a2 (sb0.extBut _ _ a1 e))
  have r1' : St1 (i + 1) m2 := D1.over r1 sb2 S.sep2_1
  apply wpAny_pure
  refine ⟨_, rfl, ?_⟩
  show Q (.ref m2.objs.size) _
  have pr : IsTupOf2 (m2.push { cls := .type "tuple", data := .seq #[x1, x2] }) m2.objs.size x1 x2 := Heap.get?_push_size _ rfl
  have sz' : (m2.push { cls := .type "tuple", data := .seq #[x1, x2] }).objs.size = m2.objs.size + 1 := Heap.size_push ..
  rw [sz] at pr sz' ⊢
  exact hQ x1 x2 _ k2 p1 p2 (Heap.get?_push_of_some _ zz2) (D1.frame _ _ _ r1' fun b _ o e => Heap.get?_push_of_some _ e) (D2.frame _ _ _ r2 fun b _ o e => Heap.get?_push_of_some _ e) pr sz' fun c o a1 a2 a3 e => Heap.get?_push_of_some _ (keeps c o a1 a2 a3 e)
/-- the end while the last pair is held; both sources are as long -/
theorem zh_end {Q : Fin → Shared → Prop} (S : ZipSep2 z TI TO i1 i2 fp1 fp2) (D1 : Draws prog w A i1 fp1 n1 P1 St1)
    (zz : IsZipHeld s.heap z TI TO T f) (live : s.heap.get? T = some oT) (zt : IsTupOf2 s.heap TI (.ref i1) (.ref i2)) (q1 : St1 n1 s.heap)
    (hE : ∀ h' tk e, (∀ c o, c ≠ z → c ≠ i1 → s.heap.get? c = some o → h'.get? c = some o) → (∃ o, h'.get? e = some o ∧ o.cls = .type "StopIteration") → E (.ref e) { s with heap := h', toks := tk }) :
    wpAny (model prog w) A (Builtin.«zip.__next__» ⟨[.ref z], []⟩) Q E s := by
  obtain ⟨hp, gg, dd, k0, os⟩ := s
  have live : hp.get? T = some oT := live
  show wpAny _ _ (field (.ref z) 2 >>= _) _ _ _
  apply wpAny_bind
  apply wpAny_field zz rfl (x := .bool false) rfl
  show wpAny _ _ (field (.ref z) 3 >>= _) _ _ _
  apply wpAny_bind
  apply wpAny_field zz rfl (x := .ref TI) rfl
  apply wpAny_bind
  apply wpAny_seqItems zt rfl
  show wpAny _ _ (Builtin.SmallTypes.ownedTupleIsFree (.ref z) >>= _) _ _ _
  apply wpAny_bind
  apply wpAny_tupleHeld_zip zz live
  intro m0 zz0 sb0
  have sb0 : Heap.SameBut z hp m0 := sb0
  simp only [Bool.false_eq_true, if_false]
  apply wpAny_bind
  rw [← Array.forIn_toList]
  simp only [List.forIn_cons, List.forIn_nil]
  apply wpAny_bind
  apply wpAny_bind
  apply wpAny_holding
  show wpAny _ _ (Builtin.SmallTypes.nextOf (.ref i1) >>= _) _ _ ⟨m0, gg, dd, k0, os⟩
  apply wpAny_bind
  apply D1.done ⟨m0, gg, dd, k0, os⟩ _ _ (D1.over q1 sb0 S.zf1)
  intro m1 e hm he
  have hm : Heap.ExtBut i1 m0 m1 := hm
  exact hE m1 k0 e (fun c o a1 a2 q => hm _ _ a2 (sb0.extBut _ _ a1 q)) he
end
/-- how the iterator stands amid the draining; the last pair is alive -/
structure ZlAt (x y : Str) (t u : Tok) (b i : Nat) (h : Heap) : Prop where
  z : (∃ p q, IsZip h (b + 4) (b + 2) (b + 3) .none ∧ IsTupOf2 h (b + 3) p q) ∨ ∃ T f o, IsZipHeld h (b + 4) (b + 2) (b + 3) T f ∧ h.get? T = some o ∧ b + 5 ≤ T
  ti : IsTupOf2 h (b + 2) (.ref b) (.ref (b + 1))
  fst : h.IsStrIter b (strIterType x) x t i
  snd : h.IsStrIter (b + 1) (strIterType y) y u i
theorem ZlAt.ty {x y : Str} {t u : Tok} {b i : Nat} {s : Shared} (S : ZlAt x y t u b i s.heap) : s.TypeIs (.ref (b + 4)) "zip" := by
  rcases S.z with ⟨_, _, e, _⟩ | ⟨_, _, _, e, _⟩
  · exact ⟨_, e, rfl⟩
  · exact ⟨_, e, rfl⟩
theorem ZlAt.keep {x y : Str} {t u : Tok} {b i : Nat} {h h' : Heap} (S : ZlAt x y t u b i h) (k : ∀ c o, h.get? c = some o → (c ∈ fpZ b ∨ b + 5 ≤ c) → h'.get? c = some o ∨ (b + 5 ≤ c ∧ ∃ o', h'.get? c = some o')) : ZlAt x y t u b i h' := by
  have kf : ∀ c o, c ∈ fpZ b → h.get? c = some o → h'.get? c = some o := fun c o hc e => by
    rcases k c o e (.inl hc) with q | ⟨q, _⟩
    · exact q
    · exfalso
      rcases fpZ_cases hc with r | r | r | r | r <;> rw [r] at q <;> omega
  refine ⟨?_, kf _ _ (by simp [fpZ]) S.ti, (let ⟨o, e, q⟩ := S.fst; ⟨o, kf _ _ (by simp [fpZ]) e, q⟩), (let ⟨o, e, q⟩ := S.snd; ⟨o, kf _ _ (by simp [fpZ]) e, q⟩)⟩
  rcases S.z with ⟨p, q, e1, e2⟩ | ⟨T, f, o, e1, e2, e3⟩
  · exact .inl ⟨p, q, kf _ _ (by simp [fpZ]) e1, kf _ _ (by simp [fpZ]) e2⟩
  · rcases k T o e2 (.inr e3) with r | ⟨_, o', r⟩
    · exact .inr ⟨T, f, o, kf _ _ (by simp [fpZ]) e1, r, e3⟩
    · exact .inr ⟨T, f, o', kf _ _ (by simp [fpZ]) e1, r, e3⟩
section
variable {prog : Program} {w : World} {A : Around} {E : Value → Shared → Prop} {s : Shared} {x y : Str} {t u : Tok} {b i : Nat}
theorem zl_next {Q : Option Value → Shared → Prop} (hh : A.in1.handled = none) (S : ZlAt x y t u b i s.heap) (l1 : i < x.cps.size) (l2 : i < y.cps.size)
    (hQ : ∀ h' tk c d tc td, x.cps[i]? = some c → y.cps[i]? = some d → ZlAt x y t u b (i + 1) h' → IsTupOf2 h' s.heap.objs.size (.str ⟨#[c]⟩ tc) (.str ⟨#[d]⟩ td) →
      (∀ a o, a ∉ fpZ b → s.heap.get? a = some o → h'.get? a = some o) → Q (some (.ref s.heap.objs.size)) { s with heap := h', toks := tk }) : wpAny (model prog w) A (pyNext (.ref (b + 4))) Q E s := by
  have big : b + 5 ≤ s.heap.objs.size := by
    have q : (b + 4 : Nat) < s.heap.objs.size := by
      rcases S.z with ⟨_, _, e, _⟩ | ⟨_, _, _, e, _⟩
      · exact Heap.lt_size e
      · exact Heap.lt_size e
    exact q
  have own := S.ty
  unfold pyNext
  apply wpAny_bind
  apply wpAny_attempt
  refine wpAny_callSpecial?_slot (name := Str.ofString "__next__") own F.slot_zip_next ?_
  refine wpAny_call_entry F.slot_zip_next own F.entry_zip_next ?_ (F.args_zip_next_1 _)
  have D1 := Draws.text (prog := prog) (w := w) (A := A.in1) hh b x t
  have D2 := Draws.text (prog := prog) (w := w) (A := A.in1) hh (b + 1) y u
  rcases S.z with ⟨p, q, e1, e2⟩ | ⟨T, f, o, e1, e2, e3⟩
  · refine zipD2_next_item (zsep b) D1 D2 e1 S.ti e2 S.fst S.snd l1 l2 ?_
    rintro v1 v2 h' tk ⟨c, tc, hc, rfl⟩ ⟨d, td, hd, rfl⟩ z1 z2 z3 z4 z5 z6 k
    have kk : ∀ a o, a ∉ fpZ b → s.heap.get? a = some o → h'.get? a = some o := fun a o n e => k a o (fun z => n (by simp [fpZ, z])) (fun z => n (by simp [fpZ, z])) (fun z => n (by simp [fpZ, z])) (fun z => n (by simp [fpZ, z])) e
    exact wpAny_pure (hQ h' tk c d tc td hc hd ⟨.inr ⟨_, _, _, z1, z5, big⟩, k _ _ (by simp) (by simp) (by simp) (by simp) S.ti, z3, z4⟩ z5 kk)
  · refine zh_item (zsep b) D1 D2 e1 e2 S.ti S.fst S.snd l1 l2 ?_
    rintro v1 v2 h' tk ⟨c, tc, hc, rfl⟩ ⟨d, td, hd, rfl⟩ z1 z3 z4 z5 z6 k
    have kk : ∀ a o, a ∉ fpZ b → s.heap.get? a = some o → h'.get? a = some o := fun a o n e => k a o (fun z => n (by simp [fpZ, z])) (fun z => n (by simp [fpZ, z])) (fun z => n (by simp [fpZ, z])) e
    have hT : T ≠ b + 4 ∧ T ≠ b ∧ T ≠ b + 1 := by
      have q : (b + 5 : Nat) ≤ T := e3
      refine ⟨?_, ?_, ?_⟩ <;> intro z <;> rw [z] at q <;> omega
    exact wpAny_pure (hQ h' tk c d tc td hc hd ⟨.inr ⟨_, _, _, z1, k _ _ hT.1 hT.2.1 hT.2.2 e2, e3⟩, k _ _ (by simp) (by simp) (by simp) S.ti, z3, z4⟩ z5 kk)
theorem zl_end {Q : Option Value → Shared → Prop} (hh : A.in1.handled = none) (S : ZlAt x y t u b x.cps.size s.heap) (ez : x.cps.size = y.cps.size)
    (hQ : ∀ h' tk, (∀ a o, a ∉ fpZ b → s.heap.get? a = some o → h'.get? a = some o) → Q none { s with heap := h', toks := tk }) : wpAny (model prog w) A (pyNext (.ref (b + 4))) Q E s := by
  have own := S.ty
  unfold pyNext
  apply wpAny_bind
  apply wpAny_attempt
  refine wpAny_callSpecial?_slot (name := Str.ofString "__next__") own F.slot_zip_next ?_
  refine wpAny_call_entry F.slot_zip_next own F.entry_zip_next ?_ (F.args_zip_next_1 _)
  have D1 := Draws.text (prog := prog) (w := w) (A := A.in1) hh b x t
  have D2 := Draws.text (prog := prog) (w := w) (A := A.in1) hh (b + 1) y u
  rcases S.z with ⟨p, q, e1, e2⟩ | ⟨T, f, o, e1, e2, e3⟩
  · refine zipD2_next_end (zsep b) D1 D2 e1 S.ti e2 S.fst S.snd (Nat.le_refl _) (by omega) (.inl rfl) ?_
    rintro h' tk e k ⟨oe, he, ce⟩
    refine wpAny_bind (wpAny_isInstance (b := true) (T := "StopIteration") ⟨oe, he, ce⟩ isSubtype_stop ?_)
    exact wpAny_pure (hQ _ _ fun a o n q => k a o (fun z => n (by simp [fpZ, z])) (fun z => n (by simp [fpZ, z])) (fun z => n (by simp [fpZ, z])) (fun z => n (by simp [fpZ, z])) q)
  · refine zh_end (zsep b) D1 e1 e2 S.ti S.fst ?_
    rintro h' tk e k ⟨oe, he, ce⟩
    refine wpAny_bind (wpAny_isInstance (b := true) (T := "StopIteration") ⟨oe, he, ce⟩ isSubtype_stop ?_)
    exact wpAny_pure (hQ _ _ fun a o n q => k a o (fun z => n (by simp [fpZ, z])) (fun z => n (by simp [fpZ, z])) q)
end
end Nf
set_option Elab.async false
set_option linter.all false
set_option maxRecDepth 100000
set_option maxHeartbeats 4000000
namespace Nf
open PySem PySem.Spec PyProof.Rows L2
theorem zip_nolen : typeLookup (.type "zip") "__len__" = pure none := by
  rw [typeLookup_type, builtinLookup_eq_fast]
  kernel_rfl
theorem zip_nohint : typeLookup (.type "zip") "__length_hint__" = pure none := by
  rw [typeLookup_type, builtinLookup_eq_fast]
  kernel_rfl
/-- each value is a pair of the signs at its place -/
def PairsIn (B H : Hp) (x y : Str) (ws : List V) : Prop := ∀ (j : Nat) v, ws[j]? = some v → ∃ T c d, (v = .ref T ∧ B T = none) ∧ H T = some (.tup [.str ⟨#[c]⟩, .str ⟨#[d]⟩]) ∧ x.cps[j]? = some c ∧ y.cps[j]? = some d
theorem PairsIn.more {B H : Hp} {x y : Str} {ws : List V} {T c d : Nat} (p : PairsIn B H x y ws) (hB : B T = none) (hT : H T = none) (hc : x.cps[ws.length]? = some c) (hd : y.cps[ws.length]? = some d) : PairsIn B (upd H T (.tup [.str ⟨#[c]⟩, .str ⟨#[d]⟩])) x y (ws ++ [.ref T]) := by
  intro j v hj
  by_cases hl : j < ws.length
  · rw [List.getElem?_append_left hl] at hj
    obtain ⟨T', c', d', e1, e2, e3⟩ := p j v hj
    exact ⟨T', c', d', e1, by rw [upd_ne (ne_of_none e2 hT)]; exact e2, e3⟩
  · have e : j = ws.length := by
      have := (List.getElem?_eq_some_iff.mp hj).1
      rw [List.length_append, List.length_singleton] at this
      omega
    subst e
    rw [List.getElem?_append_right (Nat.le_refl _), Nat.sub_self] at hj
    cases hj
    exact ⟨T, c, d, ⟨rfl, hB⟩, upd_same, hc, hd⟩
section
variable {X : Cx} {pins : List (Addr × Obj)} {σ : L2.St} {H : Hp} {A : Around} {R : Result → Shared → Prop} {x y : Str} {t u : Tok} {b S : Nat}
theorem zl_loop (hh : A.in1.in1.handled = none) (ez : x.cps.size = y.cps.size) (hn : x.cps.size ≤ 1000) (hS : (b + 5 : Nat) ≤ S) (res : Value)
    (hR : ∀ s' H2 acc c ws, L2.Inv X pins σ H2 s' → Sm H H2 → s'.heap.get? S = some (lstObj acc c) → Vals ws acc.toList → ws.length = x.cps.size → PairsIn H H2 x y ws → FpOk X pins H2 S → R (.ok (.ret res)) s') :
    ∀ (k i : Nat) (s : Shared) (H1 : Hp) (acc : Array Value) (c : Nat) (ws : List V), x.cps.size - i = k → i ≤ x.cps.size → ZlAt x y t u b i s.heap → s.heap.get? S = some (lstObj acc c) → L2.Inv X pins σ H1 s → Sm H H1 → Vals ws acc.toList → ws.length = i → PairsIn H H1 x y ws → (∀ a ∈ S :: fpZ b, FpOk X pins H1 a) →
      codeAny (model X.prog X.w) A (.builtin "list.extend.loop" ⟨[.ref S, .ref (b + 4), res], []⟩) R s := by
  have nS : S ∉ fpZ b := fun z => by rcases fpZ_cases z with r | r | r | r | r <;> omega
  intro k
  induction k with
  | zero =>
    intro i s H1 acc c ws hk hi Z lo I sm rv hl hp hf
    have hin : i = x.cps.size := by omega
    subst hin
    refine codeAny_builtin F.entry_extend_loop ?_
    rw [Around.under_plainId F.plain_extend_loop _]
    show wpAny _ A.in1 (pyNext (.ref (b + 4)) >>= _) _ _ s
    apply wpAny_bind
    refine zl_end hh Z ez fun h' tk keep => ?_
    have J : L2.Inv X pins σ H1 { s with heap := h', toks := tk } := I.turnedL (ch := fpZ b) keep fun a ha => hf a (List.mem_cons_of_mem _ ha)
    exact wpAny_pure (hR _ _ acc c ws J sm (keep S _ nS lo) rv hl hp (hf S List.mem_cons_self))
  | succ k ih =>
    intro i s H1 acc c ws hk hi Z lo I sm rv hl hp hf
    have hlt : i < x.cps.size := by omega
    refine codeAny_builtin F.entry_extend_loop ?_
    rw [Around.under_plainId F.plain_extend_loop _]
    show wpAny _ A.in1 (pyNext (.ref (b + 4)) >>= _) _ _ s
    apply wpAny_bind
    refine zl_next hh Z hlt (by omega) fun h' tk c1 c2 t1 t2 e1 e2 Z' hT keep => ?_
    have lo' := keep S _ nS lo
    have nw : ObjOk X.prog X.w (upd H1 s.heap.objs.size (.tup [.str ⟨#[c1]⟩, .str ⟨#[c2]⟩])) h' s.heap.objs.size (.tup [.str ⟨#[c1]⟩, .str ⟨#[c2]⟩]) :=
      ⟨by show 2 ≤ sizeLine; decide, [.str ⟨#[c1]⟩ t1, .str ⟨#[c2]⟩ t2], .cons ⟨t1, rfl⟩ (.cons ⟨t2, rfl⟩ .nil), ⟨_, hT, rfl, _, rfl⟩⟩
    have J : L2.Inv X pins σ (upd H1 s.heap.objs.size (.tup [.str ⟨#[c1]⟩, .str ⟨#[c2]⟩])) { s with heap := h', toks := tk } := I.turnedNew (ch := fpZ b) keep (fun a ha => hf a (List.mem_cons_of_mem _ ha)) (Nat.le_refl _) nw
    have fr : H1 s.heap.objs.size = none := I.hok.fresh (Nat.le_refl _)
    have hf2 : ∀ a ∈ S :: fpZ b, FpOk X pins (upd H1 s.heap.objs.size (.tup [.str ⟨#[c1]⟩, .str ⟨#[c2]⟩])) a := fun a ha => by
      have q := hf a ha
      have alt : a < s.heap.objs.size := by
        rcases List.mem_cons.mp ha with r | r
        · rw [r]; exact Heap.lt_size lo
        · have q4 : (b + 4 : Nat) < s.heap.objs.size := by
            rcases Z.z with ⟨_, _, e, _⟩ | ⟨_, _, _, e, _⟩
            · exact Heap.lt_size e
            · exact Heap.lt_size e
          have le : ∀ n : Nat, n ≤ b + 4 → n < s.heap.objs.size := fun n hn => Nat.lt_of_le_of_lt hn q4
          rcases fpZ_cases r with z | z | z | z | z <;> rw [z] <;> exact le _ (by omega)
      exact ⟨by rw [upd_ne (Nat.ne_of_lt alt)]; exact q.1, q.2⟩
    have al : acc.size = i := by rw [← hl, rv.length, Array.length_toList]
    show wpAny _ A.in1 (updateSeq S (·.push (.ref s.heap.objs.size)) >>= _) _ _ _
    apply wpAny_bind
    refine wpAny_updateSeq lo' rfl (wpAny_pure ⟨plainId_quiet F.plain_extend_loop _, ?_⟩) (by rw [al, sizeLine_eq]; omega) (by show (acc.push _).size ≤ sizeLine + 1; rw [Array.size_push, al, sizeLine_eq]; omega)
    have oth : ∀ a o, a ≠ S → h'.get? a = some o → (h'.update S (Obj.mapSeq (·.push (.ref s.heap.objs.size)))).get? a = some o := fun a o n e => (Heap.get?_update_other _ _ (Ne.symm n)).trans e
    have J2 : L2.Inv X pins σ (upd H1 s.heap.objs.size (.tup [.str ⟨#[c1]⟩, .str ⟨#[c2]⟩])) { s with heap := h'.update S (Obj.mapSeq (·.push (.ref s.heap.objs.size))), toks := tk } :=
      L2.Inv.turnedL (s := { s with heap := h', toks := tk }) J (t' := tk) (ch := [S]) (fun a o n e => oth a o (fun z => n (by simp [z])) e) fun a ha => hf2 a (by rw [List.mem_singleton.mp ha]; exact List.mem_cons_self)
    have own := Heap.get?_update_self (Obj.mapSeq (·.push (Value.ref s.heap.objs.size))) lo' rfl
    refine ih (i + 1) { s with heap := h'.update S (Obj.mapSeq (·.push (.ref s.heap.objs.size))), toks := tk } _ (acc.push (.ref s.heap.objs.size)) _ (ws ++ [.ref s.heap.objs.size]) (by omega) hlt ?_ own J2 ?_ ?_ (by rw [List.length_append, List.length_singleton, hl]) ?_ hf2
    · refine Z'.keep fun a o e _ => ?_
      by_cases z : a = S
      · subst z
        exact .inr ⟨hS, _, own⟩
      · exact .inl (oth a o z e)
    · exact Sm.of fun a o e => by rw [upd_ne (ne_of_none (Sm.at sm e) fr)]; exact Sm.at sm e
    · rw [Array.toList_push]
      exact rv.append (.cons rfl .nil)
    · rw [← hl] at e1 e2
      refine hp.more ?_ fr e1 e2
      cases z : H s.heap.objs.size with
      | none => rfl
      | some o =>
        have q := Sm.at sm z
        rw [fr] at q
        cases q
/-- list(z), z a zip of two texts that has not begun -/
theorem zl_call {s : Shared} {Q : Value → Shared → Prop} {E : Value → Shared → Prop} (hh : A.handled = none) (ez : x.cps.size = y.cps.size) (hn : x.cps.size ≤ 1000) (I : L2.Inv X pins σ H s) (Z : ZlAt x y t u b 0 s.heap) (z0 : ∃ p q, IsZip s.heap (b + 4) (b + 2) (b + 3) .none ∧ IsTupOf2 s.heap (b + 3) p q) (hf : ∀ a ∈ fpZ b, FpOk X pins H a)
    (hQ : ∀ s' H2 S ws, L2.Inv X pins σ (upd H2 S (.lst ws)) s' → Sm H H2 → H2 S = none → ws.length = x.cps.size → PairsIn H H2 x y ws → Q (.ref S) s') : wpAny (model X.prog X.w) A (call (.type "list") [.ref (b + 4)]) Q E s := by
  have q4 : (b + 5 : Nat) ≤ s.heap.objs.size := by
    obtain ⟨_, _, e, _⟩ := z0
    exact Heap.lt_size e
  have ne : s.heap.objs.size ≠ b + 4 := fun z => by rw [z] at q4; omega
  refine callType_codes (Q₁ := fun obj s1 => obj = .ref s.heap.objs.size ∧ s1 = { s with heap := s.heap.push { cls := .type "list", data := .seq #[] } }) F.called_list (F.typeCall_list_1 _) F.entry_list_init (code_list_new _ ⟨rfl, rfl⟩) ?_
  rintro obj s1 ⟨rfl, rfl⟩
  have o0 : (s.heap.push { cls := .type "list", data := .seq #[] }).get? s.heap.objs.size = some { cls := .type "list", data := .seq #[] } := Heap.get?_push_size _ rfl
  refine ⟨⟨_, o0, rfl⟩, F.args_list_init_2 _ _, ?_⟩
  show wpAny _ A.in1.in1 (do let old ← Builtin.List.listItems (.ref s.heap.objs.size); Builtin.List.listUpdate (.ref s.heap.objs.size) (fun _ => #[]); letGo old.toList.reverse; Builtin.List.listExtendWith (.ref s.heap.objs.size) (.ref (b + 4)) .none) _ _ _
  apply wpAny_bind
  unfold Builtin.List.listItems
  refine wpAny_seqItems o0 rfl (wpAny_pure ?_) |> wpAny_bind
  show wpAny _ A.in1.in1 (updateSeq s.heap.objs.size (fun _ => #[]) >>= fun _ => letGo (#[] : Array Value).toList.reverse >>= fun _ => Builtin.List.listExtendWith (.ref s.heap.objs.size) (.ref (b + 4)) .none) _ _ _
  apply wpAny_bind
  refine wpAny_updateSeq o0 rfl ?_
  have o1 := Heap.get?_update_self (Obj.mapSeq (fun _ => (#[] : Array Value))) o0 rfl
  refine wpAny_letGo ?_ |> wpAny_bind
  have up : ∀ (h : Heap) (g : Obj → Obj), (∀ a o, s.heap.get? a = some o → h.get? a = some o) → ∀ a o, s.heap.get? a = some o → (h.update s.heap.objs.size g).get? a = some o := fun h g q a o e =>
    (Heap.get?_update_other _ _ (Ne.symm (Nat.ne_of_lt (Heap.lt_size e)))).trans (q a o e)
  have k0 : ∀ a o, s.heap.get? a = some o → (s.heap.push { cls := .type "list", data := .seq #[] }).get? a = some o := fun a o e => Heap.get?_push_of_some _ e
  have k1 := up _ (Obj.mapSeq (fun _ => (#[] : Array Value))) k0
  obtain ⟨p, q, ziz, zip⟩ := z0
  unfold Builtin.List.listExtendWith
  refine wpAny_typeOf (T := "zip") ⟨_, k1 _ _ ziz, rfl⟩ ?_ |> wpAny_bind
  have d1 : Builtin.List.listSameRef (.ref s.heap.objs.size) (.ref (b + 4)) = false := by simp [Builtin.List.listSameRef, ne]
  have d2 : (Value.type "zip" == Value.type "list") = false := by decide
  have d3 : (Value.type "zip" == Value.type "tuple") = false := by decide
  simp only [d1, d2, d3, Bool.or_false, Bool.false_eq_true, if_false]
  refine wpAny_pyIter_zip (k1 _ _ ziz) ?_ |> wpAny_bind
  refine wpAny_holding ?_ |> wpAny_bind
  unfold Builtin.List.listLengthHint
  refine wpAny_specialOf (T := "zip") ⟨_, k1 _ _ ziz, rfl⟩ zip_nolen ?_ |> wpAny_bind
  show wpAny _ A.in1.in1 (specialOf (Value.ref (b + 4)) (Str.ofString "__length_hint__") >>= _) _ _ _
  refine wpAny_specialOf (T := "zip") ⟨_, k1 _ _ ziz, rfl⟩ zip_nohint ?_ |> wpAny_bind
  apply wpAny_pure
  show wpAny _ A.in1.in1 (rule "list.extend.makes-room" >>= fun _ => Builtin.List.listTouch (.ref s.heap.objs.size) >>= fun _ => again (.builtin "list.extend.loop" ⟨[.ref s.heap.objs.size, .ref (b + 4), .none], []⟩)) _ _ _
  refine wpAny_rule ?_ |> wpAny_bind
  apply wpAny_bind
  show wpAny _ A.in1.in1 (updateSeq s.heap.objs.size (·.push .none) >>= fun _ => updateSeq s.heap.objs.size (·.pop)) _ _ _
  refine wpAny_updateSeq o1 rfl ?_ |> wpAny_bind
  have o2 := Heap.get?_update_self (Obj.mapSeq (·.push Value.none)) o1 rfl
  refine wpAny_updateSeq (hz := by seq_fits) o2 rfl ?_
  have o3 := Heap.get?_update_self (Obj.mapSeq (·.pop)) o2 rfl
  have k3 := up _ (Obj.mapSeq (·.pop)) (up _ (Obj.mapSeq (·.push Value.none)) k1)
  refine wpAny_pure ⟨plainId_quiet F.plain_extend_loop _, ?_⟩
  have J := I.kept (t' := s.toks) k3
  have fr : H s.heap.objs.size = none := I.hok.fresh (Nat.le_refl _)
  refine zl_loop (X := X) (pins := pins) (σ := σ) (H := H) (A := A.in1) (x := x) (y := y) (t := t) (u := u) (b := b) (S := s.heap.objs.size) hh ez hn q4 .none ?_ x.cps.size 0 _ H _ _ [] (by omega) (Nat.zero_le _) (Z.keep fun a o e _ => .inl (k3 a o e)) o3 J (Sm.of fun _ _ e => e) .nil rfl (fun j v e => by simp at e) fun a ha => ?_
  · intro s' H2 acc c ws I2 sm lo rv hl hp fS
    refine ⟨rfl, hQ s' H2 s.heap.objs.size ws ?_ sm fS.1 hl hp⟩
    have nw : ObjOk X.prog X.w (upd H2 s.heap.objs.size (.lst ws)) s'.heap s.heap.objs.size (.lst ws) := ⟨by rw [hl, sizeLine_eq]; omega, acc.toList, c, rv, by rw [lo]⟩
    obtain ⟨f0, f1, f2, f3, f4, f5⟩ := fS
    have alone : ∀ {a : Addr}, a ∉ [s.heap.objs.size] → a ≠ s.heap.objs.size := fun n z => n (by simp [z])
    refine I2.call' (s' := s') (ch := [s.heap.objs.size]) rfl ⟨fun a o e _ _ _ => e, fun a o e _ _ _ => ⟨o.slots, e⟩, fun a o e n m => by rw [upd_ne (alone m)]; exact n, fun a o e _ => ⟨o, e⟩, fun a vs e => by rw [upd_ne (ne_of_none e f0)]; exact e, fun a o v e => by rw [upd_ne (ne_of_none e f0)]; exact e, fun a ps e => ⟨#[], by rw [upd_ne (ne_of_none e f0), e]; simp⟩⟩ (I2.hok.laidN (fun _ _ e => e) f0 nw) I2.bare fun a ha => ?_
    rw [List.mem_singleton.mp ha]
    exact ⟨f3, f1, f4, f5⟩
  · rcases List.mem_cons.mp ha with r | r
    · rw [r]; exact I.fpOk (Nat.le_refl _) fr
    · exact hf a r
end
/-- list(zip(e, e2)) of two texts of one length -/
def tLz (t : TA) : TE := fun σ H Q => t σ H fun vs H1 => ∃ x y, vs = [.str x, .str y] ∧ (x.cps.size = y.cps.size ∧ x.cps.size ≤ 1000) ∧ ∀ H2 S ws, Sm H1 H2 → H2 S = none → ws.length = x.cps.size → PairsIn H1 H2 x y ws → Q (.ref S) (upd H2 S (.lst ws))
theorem pe_lz {X : Cx} {e e2 : Expr} {ta : TA} {p p2 pos pos2 : Pos} (calm : X.calm = true) (hg : Gl X "zip") (hm : X.mg "zip" = none) (hg2 : Gl X "list") (hm2 : X.mg "list" = none) (ha : PA X [e, e2] ta)
    (hs : starEach [e, e2] X.env = (false, eval e X.env) :: starEach [e2] X.env := by rfl) (hpl : (backTo pos2 (starEach [e2] X.env)).any (·.1) = false := by rfl)
    (hs1 : starEach [.Call (.Name "zip" p2) [e, e2] [] pos2] X.env = (false, eval (.Call (.Name "zip" p2) [e, e2] [] pos2) X.env) :: starEach [] X.env := by rfl) (hp1 : (backTo pos (starEach [] X.env)).any (·.1) = false := by rfl) : PE X (.Call (.Name "list" p) [.Call (.Name "zip" p2) [e, e2] [] pos2] [] pos) (tLz ta) := by
  refine ⟨fun pins s σ H Q I h => wpAny_Call_Name_kw (ld_blt I hg2 hm2 Pv.boot_list (PyProof.Rows.callWith_type1 ?_ hs1 hp1))⟩
  rw [hs1]
  show wpAny _ _ (spliced ((false, eval (.Call (.Name "zip" p2) [e, e2] [] pos2) X.env) :: backTo pos (starEach [] X.env))) _ _ s
  refine Calls.spliced_cons (Call_ (ld_blt I hg hm PyProof.Rows.boot_zip (PyProof.Rows.callWith_type1 (thn (ha.run pos2 pins s σ H _ I h) ?_) hs hpl)))
  rintro us s1 ⟨vs, H1, I1, rr, x, y, rfl, ⟨ez, hn⟩, q⟩
  obtain ⟨v1, v2, rfl, ⟨t, rfl⟩, ⟨u, rfl⟩⟩ := vals2 rr
  refine zip_begins2 (begins_text x t) (begins_text y u) trivial trivial ?_
  intro h' hz hti hto h1 h2 hsz hk
  refine Calls.spliced_nil ?_
  have I2 : L2.Inv X pins σ H1 { s1 with heap := h' } := I1.kept (t' := s1.toks) hk
  refine zl_call (X := X) (pins := pins) (σ := σ) (H := H1) (A := X.A) (s := { s1 with heap := h' }) (x := x) (y := y) (t := t) (u := u) (b := s1.heap.objs.size) (I2.ok.hd calm) ez hn I2 ⟨.inl ⟨_, _, hz, hto⟩, hti, ⟨_, h1, rfl, rfl⟩, ⟨_, h2, rfl, rfl⟩⟩ ⟨_, _, hz, hto⟩ (fun c hc => ?_) fun s' H2 S ws J sm fr hl hp => ?_
  · have le : s1.heap.objs.size ≤ c := by
      rcases fpZ_cases hc with r | r | r | r | r <;> rw [r]
      · exact Nat.le_add_right _ _
      · exact Nat.le_add_right _ _
      · exact Nat.le_add_right _ _
      · exact Nat.le_refl _
      · exact Nat.le_add_right _ _
    exact I1.fpOk le (I1.hok.fresh le)
  · exact ⟨.ref S, _, J, rfl, q H2 S ws sm fr hl hp⟩
end Nf
set_option Elab.async false
set_option linter.all false
set_option maxRecDepth 100000
set_option maxHeartbeats 2000000
/-! min and max of two texts; len of an object with an own length; the place of a sign in a text -/
namespace Nf
open PySem PySem.Spec PyProof.Rows L2
def twoT (a b : Str) (i : Nat) : Str := if i = 0 then a else b
section
variable {prog : Program} {w : World} {A : Around} {E : Value → Shared → Prop} {s : Shared} {a b : Str} {t u : Tok}
abbrev twoV (a b : Str) (t u : Tok) : Array Value := #[.str a t, .str b u]
theorem twoV_at {i : Nat} {v : Value} (h : (twoV a b t u)[i]? = some v) : ∃ z, v = .str (twoT a b i) z := by
  match i, h with
  | 0, h => exact ⟨t, (Option.some.inj h).symm⟩
  | 1, h => exact ⟨u, (Option.some.inj h).symm⟩
  | i + 2, h => simp at h
theorem cmp_lt (A : Around) : CmpOf prog w A .Lt (fun i v => (twoV a b t u)[i]? = some v) fun i j => decide ((twoT a b i).cps.toList < (twoT a b j).cps.toList) := by
  intro i j vi vj s Q E hi hj hQ
  obtain ⟨z1, rfl⟩ := twoV_at hi
  obtain ⟨z2, rfl⟩ := twoV_at hj
  exact PySem.P.lt_str hQ
theorem cmp_gt (A : Around) : CmpOf prog w A .Gt (fun i v => (twoV a b t u)[i]? = some v) fun i j => decide ((twoT a b j).cps.toList < (twoT a b i).cps.toList) := by
  intro i j vi vj s Q E hi hj hQ
  obtain ⟨z1, rfl⟩ := twoV_at hi
  obtain ⟨z2, rfl⟩ := twoV_at hj
  exact PySem.P.gt_str hQ
/-- what both need: the tuple of both, walked -/
theorem two_walk (hh : A.in1.handled = none) {op : CmpOp} {bt : Nat → Nat → Bool} (hc : CmpOf prog w A.in1 op (fun i v => (twoV a b t u)[i]? = some v) bt) {Q : Value → Shared → Prop}
    (h : ∀ h' tk, (∀ c o, s.heap.get? c = some o → h'.get? c = some o) → Q (if bt 1 0 = true then .str b u else .str a t) { s with heap := h', toks := tk }) :
    wpAny (model prog w) A.in1 (pyIter (.ref s.heap.objs.size)) (fun it s2 => ∃ I fp wr n P St bt, it = .ref I ∧ Walks prog w A.in1 I fp wr n P St ∧ St 0 s2.heap ∧ (∀ b ∈ fp, b < s2.heap.objs.size) ∧ 0 < n ∧ CmpOf prog w A.in1 op P bt ∧
      ∀ v h' tk, P (argBest bt (n - 1)) v → (∀ b o, b ∉ wr → s2.heap.get? b = some o → h'.get? b = some o) → Q v { s2 with heap := h', toks := tk }) E { s with heap := s.heap.push { cls := .type "tuple", data := .seq #[.str a t, .str b u] } } := by
  have pr : (s.heap.push { cls := .type "tuple", data := .seq #[.str a t, .str b u] }).IsTuple s.heap.objs.size (twoV a b t u) := ⟨_, Heap.get?_push_size _ rfl, rfl, 0, rfl⟩
  have z1 : (s.heap.push { cls := .type "tuple", data := .seq #[.str a t, .str b u] }).objs.size = s.heap.objs.size + 1 := Heap.size_push ..
  refine wpAny_pyIter_tuple pr ?_
  refine ⟨_, [_, s.heap.objs.size], [_], _, _, _, bt, rfl, Walks.tuple (A := A.in1) hh _ s.heap.objs.size (by rw [z1]; exact Nat.ne_of_lt (Nat.lt_succ_self _)) (twoV a b t u), ⟨⟨_, Heap.get?_push_size _ rfl, rfl, rfl⟩, pr.push _⟩, ?_, by simp [twoV], hc, ?_⟩
  · intro c hc
    show c < ((s.heap.push _).push _).objs.size
    rw [Heap.size_push, z1]
    have hc : c = (s.heap.push { cls := .type "tuple", data := .seq #[.str a t, .str b u] }).objs.size ∨ c = s.heap.objs.size := by simpa using hc
    rcases hc with e | e <;> rw [e]
    · rw [z1]; exact Nat.lt_succ_self _
    · exact Nat.lt_succ_of_lt (Nat.lt_succ_self _)
  · intro v h' tk hP hk
    have old : ∀ c o, s.heap.get? c = some o → h'.get? c = some o := fun c o e => by
      refine hk c o (fun z => ?_) (Heap.get?_push_of_some _ (Heap.get?_push_of_some _ e))
      have z := List.mem_singleton.mp z
      have q := Heap.lt_size e
      rw [z, z1] at q
      exact Nat.lt_irrefl _ (Nat.lt_of_succ_lt q)
    have q := h h' tk old
    have hP : (twoV a b t u)[argBest bt 1]? = some v := hP
    have e : v = if bt 1 0 = true then .str b u else .str a t := by
      show v = _
      have e1 : argBest bt 1 = if bt 1 0 = true then 1 else 0 := rfl
      rw [e1] at hP
      cases z : bt 1 0 with
      | true => rw [z] at hP; exact (Option.some.inj hP).symm
      | false => rw [z] at hP; exact (Option.some.inj hP).symm
    rw [e]
    exact q
end
section
variable {X : Cx}
theorem call_min_tx (hc : X.calm = true) : CallR X (.builtin "min") (fun xs H Q => ∃ a b, xs = [.str a, .str b] ∧ Q (.str (if b.cps.toList < a.cps.toList then b else a)) H) := by
  rintro pins s σ H xs us Q I r ⟨a, b, rfl, q⟩
  obtain ⟨v1, v2, rfl, ⟨t, rfl⟩, ⟨u, rfl⟩⟩ := vals2 r
  refine call_min_two (two_walk (show X.A.in1.handled = none from I.ok.hd hc) (cmp_lt _) fun h' tk k => ⟨_, H, I.kept k, ?_, q⟩)
  show RelV (.str (if b.cps.toList < a.cps.toList then b else a)) (if decide (b.cps.toList < a.cps.toList) = true then .str b u else .str a t)
  by_cases z : b.cps.toList < a.cps.toList
  · rw [if_pos z, if_pos (decide_eq_true z)]; exact ⟨u, rfl⟩
  · rw [if_neg z, if_neg (by simp [z])]; exact ⟨t, rfl⟩
theorem call_max_tx (hc : X.calm = true) : CallR X (.builtin "max") (fun xs H Q => ∃ a b, xs = [.str a, .str b] ∧ Q (.str (if a.cps.toList < b.cps.toList then b else a)) H) := by
  rintro pins s σ H xs us Q I r ⟨a, b, rfl, q⟩
  obtain ⟨v1, v2, rfl, ⟨t, rfl⟩, ⟨u, rfl⟩⟩ := vals2 r
  refine call_max_two (two_walk (show X.A.in1.handled = none from I.ok.hd hc) (cmp_gt _) fun h' tk k => ⟨_, H, I.kept k, ?_, q⟩)
  show RelV (.str (if a.cps.toList < b.cps.toList then b else a)) (if decide (a.cps.toList < b.cps.toList) = true then .str b u else .str a t)
  by_cases z : a.cps.toList < b.cps.toList
  · rw [if_pos z, if_pos (decide_eq_true z)]; exact ⟨u, rfl⟩
  · rw [if_neg z, if_neg (by simp [z])]; exact ⟨t, rfl⟩
/-- len(o), by the class's own length -/
theorem call_lenO {k : Nat} {C f : Addr} {fd : FuncData} {sp : Sp} (hm : Meth X.K C "__len__" f) (F : FnOk X.prog X.w X.K X.mg X.base CX0 k f fd ["self"] sp) (hr : Room (k + 1) X.A) (hb : Binds X.K fd ["self"] []) :
    CallR X (.builtin "len") (fun xs H Q => ∃ a dx fs, xs = [.ref a] ∧ H a = some (.ins C dx fs) ∧ sp [.ref a] H (fun v H1 => ∃ n : Int, v = .int n ∧ (0 ≤ n ∧ n < 1000000) ∧ Q (.int n) H1) E0) := by
  rintro pins s σ H xs us Q I r ⟨a, dx, fs, rfl, ha, q⟩
  obtain ⟨v, rfl, rv⟩ := vals1 r
  obtain rfl : v = Value.ref a := rv
  obtain ⟨mA, ob, _⟩ := ins_get I.hok ha
  obtain ⟨od, at_, _⟩ := ob.look
  obtain ⟨m, fr⟩ := I.fr
  refine PySem.W.len_K fr I.ok.mod.kin at_ hm.at_ hm.fn ?_
  have bd := hb s [.ref a] I.kIn rfl
  refine wpAny_call (codeAny_mono (F.run X.A.in1 X.stack s H ⟨[.ref a], []⟩ [.ref a] [.ref a] _ E0 hr.in1 I.env0.in1 bd (.cons rfl .nil) q) fun rr s2 hq => ?_)
  match rr, hq with
  | .error _, hq => exact (show False from hq).elim
  | .ok (.ret u), hq =>
    obtain ⟨x, H1, I1, rx, n, rfl, ⟨n0, n1⟩, qq⟩ := I.after hq
    obtain ⟨t, rfl⟩ := rx
    exact ⟨⟨n0, by omega⟩, .int n, H1, I1.tok _, ⟨_, rfl⟩, qq⟩
  | .ok .next, hq => exact (show False from hq).elim
  | .ok .brk, hq => exact (show False from hq).elim
  | .ok .cont, hq => exact (show False from hq).elim
end
/-! the place of a sign -/
open Builtin Builtin.Str StrLaws in
theorem occ_all (x y : Str) (hi lim : Nat) : ∀ (l : List Nat) (st : Array Nat × Nat), (∀ i ∈ st.1.toList, i + y.length ≤ hi ∧ subAt x y i = true) → ∀ i ∈ (forIn l st (occBody x y hi lim)).run.fst.toList, i + y.length ≤ hi ∧ subAt x y i = true
  | [], st, h => h
  | a :: l, st, h => by
    rw [List.forIn_cons]
    unfold occBody
    split
    · rename_i hc
      refine occ_all x y hi lim l _ fun i hi' => ?_
      rw [Array.toList_push] at hi'
      rcases List.mem_append.mp hi' with q | q
      · exact h i q
      · rw [List.mem_singleton.mp q]; exact ⟨hc.1.2, hc.2⟩
    · exact occ_all x y hi lim l _ h
open Builtin Builtin.Str StrLaws in
theorem sign_ix {l : List Nat} (hn : l.Nodup) {c : Nat} (hc : c ∈ l) : occurrences (tx l) (tx [c]) 0 (tx l).length 1 = [l.idxOf c] := by
  have h1 := found_one (tx l) c
  rw [tx_toList, decide_eq_true hc] at h1
  have h2 := occ_length_le (tx l) (tx [c]) 0 (tx l).length 1
  have h3 : ∀ i ∈ occurrences (tx l) (tx [c]) 0 (tx l).length 1, i + (tx [c]).length ≤ (tx l).length ∧ subAt (tx l) (tx [c]) i = true := by
    rw [occ_eq]
    exact occ_all _ _ _ _ _ _ (fun i hi => by simp at hi)
  have h1 : (!(occurrences (tx l) (tx [c]) 0 (tx l).length 1).isEmpty) = true := h1
  revert h1 h2 h3
  generalize occurrences (tx l) (tx [c]) 0 (tx l).length 1 = os
  intro h2 h3 h1
  match os, h1, h2, h3 with
  | [i], _, _, h3 =>
    have q := (subAt_one (tx l) c i).mp (h3 i List.mem_cons_self)
    rw [tx_toList] at q
    obtain ⟨hi, e⟩ := List.getElem?_eq_some_iff.mp q
    have := hn.idxOf_getElem i hi
    rw [e] at this
    rw [this]
  | [], h1, _, _ => simp at h1
  | _ :: _ :: _, _, h2, _ => simp at h2
end Nf
set_option Elab.async false
set_option linter.all false
set_option maxRecDepth 100000
set_option maxHeartbeats 2000000
/-! sorted of a text -/
namespace Nf
open PySem PySem.Spec PyProof.Rows L2
theorem call_sorted_tx {X : Cx} (calm : X.calm = true) : CallR X (.builtin "sorted") (fun xs H Q => ∃ l : List Nat, xs = [.str (tx l)] ∧ l.length < 64 ∧
    ∀ ys p, ys.Perm (l.map fun c => (⟨#[c]⟩ : Str)) → sortedS ys = true → H p = none → Q (.ref p) (upd H p (.lst (ys.map V.str)))) := by
  rintro pins s σ H xs us Q I r ⟨l, rfl, small, q⟩
  obtain ⟨v, rfl, t, rfl⟩ := vals1 r
  have sz : (tx l).cps.size ≤ sizeLine := by rw [tx_size, sizeLine_eq]; omega
  refine Calls.call_function_entry PyProof.Rows.kind_sorted PyProof.Rows.plain_sorted PyProof.Rows.entry_sorted (PyProof.Rows.args_sorted1 _) ?_
  unfold Builtin.«sorted»
  apply wpAny_bind
  apply wpAny_pure
  apply wpAny_bind
  refine wpAny_collect_str (hn := sz) (show X.A.in1.handled = none from I.ok.hd calm) (tx l) t fun s' acc keep eg ed eo items => ?_
  obtain ⟨hp, gg, dd, tk, os⟩ := s'
  have eg : gg = s.gens := eg
  have ed : dd = s.drawn := ed
  have eo : os = s.os := eo
  subst eg ed eo
  have n1 : acc.toList.length = (l.map fun c => (⟨#[c]⟩ : Str)).length := by rw [Array.length_toList, items.1, tx_size, List.length_map]
  have sg : StrsAre acc.toList (l.map fun c => (⟨#[c]⟩ : Str)) := strs_at n1 fun j v e => by
    obtain ⟨c, t', e1, e2⟩ := items.2 j v (by rw [← Array.getElem?_toList]; exact e)
    rw [tx_get] at e1
    exact ⟨⟨#[c]⟩, t', by rw [List.getElem?_map, e1]; rfl, e2⟩
  have J : L2.Inv X pins σ H { s with heap := hp, toks := tk } := I.kept keep
  have n2 : acc.toList.length < 64 := by rw [n1, List.length_map]; exact small
  apply wpAny_bind
  refine wpAny_newList ?_ (by rw [sizeLine_eq]; omega)
  have there : (hp.push (seqObj "list" acc.toList.toArray 0)).get? hp.objs.size = some (seqObj "list" acc.toList.toArray 0) := Heap.get?_push_size _ rfl
  show wpAny _ _ _ _ _ { s with heap := hp.push (seqObj "list" acc.toList.toArray 0), toks := tk }
  apply wpAny_bind
  apply wpAny_holding
  refine wpAny_call_entry PyProof.Rows.slot_list_sort ⟨_, there, rfl⟩ PyProof.Rows.entry_list_sort (list_sort_treeK strKind_oneLt (s := { s with heap := hp.push (seqObj "list" acc.toList.toArray 0), toks := tk }) there sg.keysOf (fun a1 a2 rest e => keyKind_strs (by rw [← e]; exact sg)) n2 fun st' h1 h2 => ⟨_, rfl, ?_⟩) (PyProof.Rows.args_list_sort _)
  obtain ⟨ys, g1, g2, g3⟩ := sorted_out_str sg h1 h2
  obtain ⟨e', at_⟩ := PyProof.Rows.sortedHeap_at (vs := acc.toList) (out := (arrOf st').map (·.2)) there
  have n3 : (ys.map V.str).length ≤ sizeLine := by rw [List.length_map, g2.length_eq, List.length_map, sizeLine_eq]; omega
  have nw : ObjOk X.prog X.w (upd H hp.objs.size (.lst (ys.map V.str))) _ hp.objs.size (.lst (ys.map V.str)) := ⟨n3, ((arrOf st').map (·.2)).toList, e', vals_of_strs g1, by rw [Array.toArray_toList]; exact at_⟩
  refine wpAny_pure ⟨_, rfl, .ref hp.objs.size, upd H hp.objs.size (.lst (ys.map V.str)), J.laid (t' := tk) (fun b o e => ?_) (Nat.le_refl _) nw, rfl, q ys _ g2 g3 (J.hok.fresh (Nat.le_refl _))⟩
  have lt : b < hp.objs.size := Heap.lt_size e
  rw [PyProof.Rows.sortedHeap_old (Nat.ne_of_lt lt) (by rw [size_push']; exact Nat.lt_succ_of_lt lt)]
  exact Heap.get?_push_of_some _ e
end Nf
set_option Elab.async false
set_option linter.all false
set_option maxRecDepth 100000
set_option maxHeartbeats 2000000
namespace DL
open PySem PySem.Spec PyProof.Rows L2 Nf
section
variable {K : PySem.W.Frag} {X : Cx}
theorem RpS.offOf {H : Hp} {μ : Mu} {st : Store} (s : RpS K H μ st) {T : Addr} (h : H T = none) : μ.off T := s.off h
/-! ### zip of two texts -/
def zipS (a b : List Nat) : List (List D) := (a.zip b).map fun p => [D.str [p.1], D.str [p.2]]
theorem zipS_len (a b : List Nat) : (zipS a b).length = min a.length b.length := by rw [zipS, List.length_map, List.length_zip]
theorem zipS_get {a b : List Nat} {i : Nat} {row : List D} (h : (zipS a b)[i]? = some row) : ∃ c d, a[i]? = some c ∧ b[i]? = some d ∧ row = [.str [c], .str [d]] := by
  unfold zipS at h
  rw [List.getElem?_map] at h
  cases q : (a.zip b)[i]? with
  | none => rw [q] at h; cases h
  | some p =>
    rw [q] at h
    cases h
    rw [List.getElem?_zip_eq_some] at q
    exact ⟨p.1, p.2, q.1, q.2, rfl⟩
theorem sign_rp {H : Hp} {μ : Mu} (c : Nat) : Rp K H μ (.str [c]) (.str ⟨#[c]⟩) := by simp only [Rp]; rfl
theorem wk_zs {H : Hp} {μ : Mu} {a b : List Nat} : Wk K H μ (Itzs (tx a) (tx b)) ((zipS a b).map D.tup) fun _ => True := by
  refine wk_new (fun i H' μ' st hi g s _ => ?_) (fun H' μ' st g s _ => ?_) fun i x H' H'' μ' st row hr g s _ y => ?_
  · show i < min _ _
    rw [tx_size, tx_size]
    rwa [zipS_len] at hi
  · show _ = min _ _
    rw [tx_size, tx_size, zipS_len]
  · obtain ⟨T, c, d, ⟨e1, e2⟩, e3, e4, e5⟩ := y
    rw [tx_get] at e4 e5
    obtain ⟨c', d', h1, h2, rfl⟩ := zipS_get hr
    rw [h1] at e4; cases e4
    rw [h2] at e5; cases e5
    exact ⟨T, _, e1, e2, e3, .cons (sign_rp c) (.cons (sign_rp d) .nil)⟩
def iZip (f g : ME) : MI := fun ρ st Q => f ρ st fun d st1 => g ρ st1 fun e st2 => isS d fun a => isS e fun b => Q ((zipS a b).map D.tup) (fun _ => True) st2
theorem di_zip {e e2 : Expr} {f g : ME} {p pos tpos : Pos} {elts : List Expr} {kk : Nat} (hm : X.mg "zip" = none) (he : DE K X e f) (he2 : DE K X e2 g) (hK : X.K = K := by rfl) (hg : Gl X "zip" := by rfl)
    (hs : starEach [e, e2] X.env = (false, eval e X.env) :: starEach [e2] X.env := by rfl) (hs2 : starEach [e2] X.env = (false, eval e2 X.env) :: starEach [] X.env := by rfl) (hpl : (backTo pos (starEach [e2] X.env)).any (·.1) = false := by rfl) :
    DI K X (.Tuple elts kk tpos) (.Call (.Name "zip" p) [e, e2] [] pos) (iZip f g) := by
  subst hK
  refine PI_imp (pi_zs hg hm (pa_cons he (pa_cons he2 pa_nil hs2) hs) hs hpl) fun σ H R ⟨μ, ρ, st, Qi, he, hs, hm, k⟩ => ?_
  refine ⟨μ, ρ, st, _, he, hs, hm, fun d st1 v μ1 H1 q1 r1 s1 g1 => ⟨μ1, ρ, st1, _, he.go g1, s1, q1, fun d2 st2 v2 μ2 H2 q2 r2 s2 g2 => ?_⟩⟩
  obtain ⟨a, rfl, rfl, q⟩ := (r1.go g2).str_of q2
  obtain ⟨b, rfl, rfl, q⟩ := r2.str_of q
  exact ⟨tx a, tx b, rfl, k _ _ _ _ _ _ q wk_zs s2 (g1.trans g2)⟩
/-! ### enumerate of a text -/
theorem wk_es {H : Hp} {μ : Mu} {l : List Nat} : Wk K H μ (Ites (tx l)) ((enumD 0 (l.map fun c => D.str [c])).map D.tup) fun _ => True := by
  refine wk_new (fun i H' μ' st hi g s _ => ?_) (fun H' μ' st g s _ => ?_) fun i x H' H'' μ' st row hr g s _ y => ?_
  · show i < _
    rw [tx_size]
    rwa [enumD_len, List.length_map] at hi
  · show _ = _
    rw [tx_size, enumD_len, List.length_map]
  · obtain ⟨T, c, ⟨e1, e2⟩, e3, e4⟩ := y
    rw [tx_get] at e4
    rw [enumD_get, List.getElem?_map, e4] at hr
    cases hr
    refine ⟨T, _, e1, e2, e3, .cons ?_ (.cons (sign_rp c) .nil)⟩
    simp only [Rp]
    congr 1
def iEnS (f : ME) : MI := fun ρ st Q => f ρ st fun d st1 => isS d fun l => Q ((enumD 0 (l.map fun c => D.str [c])).map D.tup) (fun _ => True) st1
theorem di_enumS {e : Expr} {f : ME} {p pos tpos : Pos} {elts : List Expr} {kk : Nat} (hm : X.mg "enumerate" = none) (he : DE K X e f) (hK : X.K = K := by rfl) (hg : Gl X "enumerate" := by rfl) (hs : starEach [e] X.env = [(false, eval e X.env)] := by rfl) :
    DI K X (.Tuple elts kk tpos) (.Call (.Name "enumerate" p) [e] [] pos) (iEnS f) := by
  subst hK
  refine PI_imp (pi_es hg hm (pa_cons he pa_nil hs) hs) fun σ H R ⟨μ, ρ, st, Qi, he, hs, hm, k⟩ => ?_
  refine ⟨μ, ρ, st, _, he, hs, hm, fun d st1 v μ1 H1 q1 r1 s1 g1 => ?_⟩
  obtain ⟨l, rfl, rfl, q⟩ := r1.str_of q1
  exact ⟨tx l, rfl, k _ _ _ _ _ _ q wk_es s1 g1⟩
/-! ### list(zip(a, b)) of two texts of one length -/
def mLz (f g : ME) : ME := fun ρ st Q => f ρ st fun d st1 => g ρ st1 fun e st2 => isS d fun a => isS e fun b => (a.length = b.length ∧ a.length ≤ 1000) ∧ Q (.lst ((zipS a b).map D.tup)) st2
theorem RpL.of_get {H : Hp} {μ : Mu} : ∀ {ds : List D} {vs : List V}, ds.length = vs.length → (∀ (j : Nat) d v, ds[j]? = some d → vs[j]? = some v → Rp K H μ d v) → RpL K H μ ds vs
  | [], [], _, _ => .nil
  | [], _ :: _, h, _ => by simp at h
  | _ :: _, [], h, _ => by simp at h
  | d :: ds, v :: vs, h, q => .cons (q 0 d v rfl rfl) (RpL.of_get (by simpa using h) fun j d' v' h1 h2 => q (j + 1) d' v' h1 h2)
theorem de_lz {e e2 : Expr} {f g : ME} {p p2 pos pos2 : Pos} (hc : X.calm = true) (hm : X.mg "zip" = none) (hm2 : X.mg "list" = none) (he : DE K X e f) (he2 : DE K X e2 g) (hK : X.K = K := by rfl) (hg : Gl X "zip" := by rfl) (hg2 : Gl X "list" := by rfl)
    (hs : starEach [e, e2] X.env = (false, eval e X.env) :: starEach [e2] X.env := by rfl) (hs2 : starEach [e2] X.env = (false, eval e2 X.env) :: starEach [] X.env := by rfl) (hpl : (backTo pos2 (starEach [e2] X.env)).any (·.1) = false := by rfl)
    (hs1 : starEach [.Call (.Name "zip" p2) [e, e2] [] pos2] X.env = (false, eval (.Call (.Name "zip" p2) [e, e2] [] pos2) X.env) :: starEach [] X.env := by rfl) (hp1 : (backTo pos (starEach [] X.env)).any (·.1) = false := by rfl) :
    DE K X (.Call (.Name "list" p) [.Call (.Name "zip" p2) [e, e2] [] pos2] [] pos) (mLz f g) := by
  subst hK
  refine PE_imp (pe_lz hc hg hm hg2 hm2 (pa_cons he (pa_cons he2 pa_nil hs2) hs) hs hpl hs1 hp1) fun σ H Q ⟨μ, ρ, st, Qd, hee, s, hm, k⟩ => ?_
  refine ⟨μ, ρ, st, _, hee, s, hm, fun d st1 v μ1 H1 q1 r1 s1 g1 => ⟨μ1, ρ, st1, _, hee.go g1, s1, q1, fun d2 st2 v2 μ2 H2 q2 r2 s2 g2 => ?_⟩⟩
  obtain ⟨a, rfl, rfl, q⟩ := (r1.go g2).str_of q2
  obtain ⟨b, rfl, rfl, ⟨h1, h2⟩, q⟩ := r2.str_of q
  refine ⟨tx a, tx b, rfl, ⟨by rw [tx_size, tx_size, h1], by rw [tx_size]; exact h2⟩, fun H3 S ws sm fr hl hp => ?_⟩
  refine ((k.to (g1.trans g2)).to (.sm sm)).lst q ?_ (s2.sm sm) fr
  rw [tx_size] at hl
  refine .of_get (by rw [List.length_map, zipS_len, hl]; omega) fun j d v hd hv => ?_
  obtain ⟨T, c, c2, ⟨rfl, hB⟩, hT, e4, e5⟩ := hp j v hv
  rw [tx_get] at e4 e5
  rw [List.getElem?_map] at hd
  cases z : (zipS a b)[j]? with
  | none => rw [z] at hd; cases hd
  | some row =>
    rw [z] at hd
    cases hd
    obtain ⟨c', d', w1, w2, rfl⟩ := zipS_get z
    rw [w1] at e4; cases e4
    rw [w2] at e5; cases e5
    simp only [Rp]
    exact ⟨T, _, rfl, .inl ⟨s2.off hB, .inl hT⟩, .cons (sign_rp _) (.cons (sign_rp _) .nil)⟩
/-! ### sorted of a text; least and greatest of two texts -/
def cSortT : MC := fun st ds Q => match ds with
  | [.str l] => l.length < 64 ∧ Q (.lst ((srt (l.map fun c => [c])).map D.str)) st
  | _ => False
theorem dc_sortT (hc : X.calm = true) (hK : X.K = K := by rfl) : CallR X (.builtin "sorted") (lC K cSortT) := by
  subst hK
  refine CallR_imp (call_sorted_tx hc) fun xs H Q hh => ?_
  obtain ⟨μ, st, ds, Qd, r, s, hm, k⟩ := hh
  unfold cSortT at hm
  split at hm
  · rename_i l
    obtain ⟨v, rfl, rd⟩ := r.one
    simp only [Rp] at rd
    subst rd
    refine ⟨l, rfl, hm.1, fun ys p hp hs ht => ?_⟩
    have hp' : ys.Perm ((l.map fun c => [c]).map tx) := by rw [List.map_map]; exact hp
    rw [sorted_is hp' hs, ← vtx_map]
    exact k.lst hm.2 (.ofStrs _) s ht
  · exact hm.elim
def cMinT : MC := fun st ds Q => match ds with
  | [.str a, .str b] => Q (.str (if b < a then b else a)) st
  | _ => False
def cMaxT : MC := fun st ds Q => match ds with
  | [.str a, .str b] => Q (.str (if a < b then b else a)) st
  | _ => False
theorem dc_minT (hc : X.calm = true) (hK : X.K = K := by rfl) : CallR X (.builtin "min") (lC K cMinT) := by
  subst hK
  refine CallR_imp (call_min_tx hc) fun xs H Q hh => ?_
  obtain ⟨μ, st, ds, Qd, r, s, hm, k⟩ := hh
  unfold cMinT at hm
  split at hm
  · rename_i a b
    obtain ⟨v, w, rfl, r1, r2⟩ := r.two
    simp only [Rp] at r1 r2
    subst r1 r2
    refine ⟨tx a, tx b, rfl, ?_⟩
    rw [tx_toList, tx_toList]
    have e : (if b < a then tx b else tx a) = tx (if b < a then b else a) := by split <;> rfl
    rw [e]
    exact k.at hm (by simp only [Rp]) s
  · exact hm.elim
theorem dc_maxT (hc : X.calm = true) (hK : X.K = K := by rfl) : CallR X (.builtin "max") (lC K cMaxT) := by
  subst hK
  refine CallR_imp (call_max_tx hc) fun xs H Q hh => ?_
  obtain ⟨μ, st, ds, Qd, r, s, hm, k⟩ := hh
  unfold cMaxT at hm
  split at hm
  · rename_i a b
    obtain ⟨v, w, rfl, r1, r2⟩ := r.two
    simp only [Rp] at r1 r2
    subst r1 r2
    refine ⟨tx a, tx b, rfl, ?_⟩
    rw [tx_toList, tx_toList]
    have e : (if a < b then tx b else tx a) = tx (if a < b then b else a) := by split <;> rfl
    rw [e]
    exact k.at hm (by simp only [Rp]) s
  · exact hm.elim
/-! ### the place of a sign in a text -/
def mIdx (f g : ME) : ME := fun ρ st Q => f ρ st fun d st1 => isS d fun l => g ρ st1 fun e st2 => isS e fun y => ∃ c, y = [c] ∧ (l.Nodup ∧ c ∈ l) ∧ Q (.int (l.idxOf c : Nat)) st2
theorem de_idx {o e : Expr} {f g : ME} {pos apos : Pos} (ho : DE K X o f) (he : DE K X e g) (hK : X.K = K := by rfl) (hbase : attributeBase o "index" X.env (eval o X.env) = eval o X.env := by rfl)
    (hfew : ((backTo pos (starEach [e] X.env)).all (fun x => !x.1) && (backToKw pos (keywordEach [] X.env)).all (fun x => x.1.isSome)
      && decide ([e].length + ([] : List Keyword).length + (if ([] : List Keyword).isEmpty then 0 else 1) < 30)) = true := by rfl)
    (hline : (apos.endLine == pos.line) = true := by rfl) (hs : starEach [e] X.env = (false, eval e X.env) :: starEach [] X.env := by rfl) (hplain : (backTo pos (starEach [] X.env)).any (·.1) = false := by rfl) :
    DE K X (.Call (.Attribute o "index" apos) [e] [] pos) (mIdx f g) := by
  subst hK
  refine PE_imp (pe_bm PySem.F.plainAttrs_str PySem.F.slot_str_index PySem.F.type_str_index mt_sindex ho (pa_cons he pa_nil hs) hbase hfew hline hs hplain) fun σ H Q ⟨μ, ρ, st, Qd, hee, s, hm, k⟩ => ?_
  refine ⟨μ, ρ, st, _, hee, s, hm, fun d st1 v μ1 H1 q1 r1 s1 g1 => ?_⟩
  obtain ⟨l, rfl, rfl, q1⟩ := r1.str_of q1
  refine ⟨rfl, μ1, ρ, st1, _, hee.go g1, s1, q1, fun y st2 w μ2 H2 q2 r2 s2 g2 => ?_⟩
  obtain ⟨y', rfl, rfl, c, rfl, ⟨hn, hc⟩, q2⟩ := r2.str_of q2
  exact ⟨tx l, tx [c], l.idxOf c, [], rfl, rfl, sign_ix hn hc, ((k.to g1).to g2).at q2 (.int _ _ _) s2⟩
/-! ### len(o), by the class's own length -/
def mLenO (C : Addr) (S : MC) (f : ME) : ME := fun ρ st Q => f ρ st fun d st1 => isO st1 C d fun _ => S st1 [d] fun e st2 => isI e fun n => (0 ≤ n ∧ n < 1000000) ∧ Q (.int n) st2
theorem de_lenO {k : Nat} {C : Addr} {S : MC} {o : Expr} {f : ME} {p pos : Pos} (hM : CanMe X.prog X.w X.K X.mg X.base k C "__len__" ["self"] S) (hr : Room (k + 1) X.A) (hm : X.mg "len" = none) (ho : DE K X o f) (hK : X.K = K := by rfl) (hg : Gl X "len" := by rfl)
    (hs : starEach [o] X.env = (false, eval o X.env) :: starEach [] X.env := by rfl) (hpl : (backTo pos (starEach [] X.env)).any (·.1) = false := by rfl) :
    DE K X (.Call (.Name "len" p) [o] [] pos) (mLenO C S f) := by
  subst hK
  obtain ⟨g, fd, hme, F, hb⟩ := hM.ex
  refine PE_imp (pe_callB (call_lenO hme F hr hb) hg hm (by decide +kernel) (pa_cons ho pa_nil hs) (by decide) (by decide) hs hpl) fun σ H Q ⟨μ, ρ, st, Qd, hee, s, hm, k⟩ => ?_
  refine ⟨μ, ρ, st, _, hee, s, hm, fun d st1 v μ1 H1 q1 r1 s1 g1 => ?_⟩
  obtain ⟨a, dx, vs, fs, rfl, h1, h2, e, q⟩ := r1.isO s1 q1
  refine ⟨a, dx, vs, rfl, h1, rfl, μ1, st1, [d], _, .cons r1 .nil, s1, q, fun e st2 v2 μ2 H2 q2 r2 s2 g2 => ?_⟩
  obtain ⟨n, rfl, rfl, ⟨n0, n1⟩, q2⟩ := r2.int_of q2
  exact ⟨n, rfl, ⟨n0, n1⟩, ((k.to g1).to g2).at q2 (.int _ _ _) s2⟩
end
end DL
set_option Elab.async false
set_option linter.all false
set_option maxRecDepth 100000
set_option maxHeartbeats 2000000
/-! name = [.. for .. for ..] on one line -/
namespace DL
open PySem PySem.Spec PyProof.Rows L2 Nf
section
variable {K : PySem.W.Frag} {X : Cx} {elt tg iter tg1 iter1 : Expr} {ifs ifs1 : List Expr} {scope : Scope} {own : List (Str × Nat)} {pos : Pos} {w w1 : MI} {g g1 : MG} {t t1 : MT} {f : ME} {T T1 : TG} {vs1 : List Nat}
theorem ds_lc2 {i : Nat} {y : Str} {py : Pos} {spos : Pos} (hc : X.calm = true) (hN : X.N.Nodup) (hy : X.N[i]? = some y) (hyl : X.env.scope.names.lookup y = some .local)
    (hsw : swapsWith (.ListComp elt [⟨tg, iter, ifs, 0⟩, ⟨tg1, iter1, ifs1, 0⟩] scope pos) (some (.Name y py)) spos.line X.env = pure true) (hi : DI K X tg iter w) (ok : BlkOk X.N X.env.scope scope own) (hT : TOf K T g (own.map (·.2))) (hT1 : TOf K T1 g1 vs1) (hv : ∀ i ∈ vs1, i ∈ own.map (·.2))
    (hg : ∀ (s : Shared) (H : Hp) (C : Addr) (cl : List (Str × Addr)) (fp : List Addr), PG (X.blk s H scope (compEnvC scope cl C X.env) fp) tg T) (ht : ∀ (s : Shared) (H : Hp) (C : Addr) (cl : List (Str × Addr)) (fp : List Addr), PTs (X.blk s H scope (compEnvC scope cl C X.env) fp) ifs (lT K t))
    (hi1 : ∀ (s : Shared) (H : Hp) (C : Addr) (cl : List (Str × Addr)) (fp : List Addr), DI K (X.blk s H scope (compEnvC scope cl C X.env) fp) tg1 iter1 w1)
    (hg1 : ∀ (s : Shared) (H : Hp) (C : Addr) (cl : List (Str × Addr)) (fp : List Addr), PG (X.blk s H scope (compEnvC scope cl C X.env) fp) tg1 T1) (ht1 : ∀ (s : Shared) (H : Hp) (C : Addr) (cl : List (Str × Addr)) (fp : List Addr), PTs (X.blk s H scope (compEnvC scope cl C X.env) fp) ifs1 (lT K t1))
    (he : ∀ (s : Shared) (H : Hp) (C : Addr) (cl : List (Str × Addr)) (fp : List Addr), DE K (X.blk s H scope (compEnvC scope cl C X.env) fp) elt f) (hs : ∀ x, foldedSetIterable iter X.env x = pure x := by intro _; rfl) (hs1 : ∀ env x, foldedSetIterable iter1 env x = pure x := by intro _ _; rfl) :
    DS K X (.Assign [.Name y py] (.ListComp elt [⟨tg, iter, ifs, 0⟩, ⟨tg1, iter1, ifs1, 0⟩] scope pos) spos) (sSet i (mLc2 w g t w1 g1 t1 f (own.map (·.2)) vs1)) :=
  PS_imp (ps_setLc2 hc hN hy hyl hsw hi ok hv hg ht hi1 hg1 ht1 he hs hs1) fun D σ H ⟨μ, ρ, st, De, he, hs, hm, k⟩ => by
    refine lc2_lift (fun v σ H Q q => hT.of v _ H Q q) hT.tg (fun v σ H Q q => hT1.of v _ H Q q) hT1.tg fin_lst ⟨μ, ρ, st, fun d1 st1 => De.nx (ρ.set i (some d1)) st1, he, hs, hm, ?_⟩
    exact fun d1 st1 v1 μ1 H1 q1 r1 s1 g1 => k.nx _ _ _ _ _ q1 ((he.go g1).set r1 i) s1 g1
end
end DL
set_option Elab.async false
set_option linter.all false
set_option maxRecDepth 100000
set_option maxHeartbeats 2000000
/-! empty dicts as cells, keys that are tuples, sorted of data, of dicts -/
namespace DL
open PySem PySem.Spec PyProof.Rows L2 Nf
section
variable {K : PySem.W.Frag} {X : Cx}
/-! ### {} -/
theorem Cont.cellC {H : Hp} {μ : Mu} {Qd : QD} {Q : VK} (k : Cont K H μ Qd Q) {c : Cell} {o : HO} {st : Store} {p : Addr} (q : Qd (.cel st.length) (st ++ [c])) (s : RpS K H μ st) (hp : H p = none) (hc : RpC K (upd H p o) (μ.add p) p c) : Q (.ref p) (upd H p o) :=
  k _ _ _ (μ.add p) _ q (by simp only [Rp]; exact ⟨p, rfl, by show (μ.c ++ [p])[_]? = _; rw [← s.len, List.getElem?_append_right (Nat.le_refl _), Nat.sub_self]; rfl⟩) (s.cellNew hp hc) (.cellNew hp)
def mDic0 : ME := fun _ st Q => Q (.cel st.length) (st ++ [.dic []])
def mDit0 : ME := fun _ st Q => Q (.cel st.length) (st ++ [.dit []])
theorem de_dic0 {pos : Pos} : DE K X (.Dict [] [] pos) mDic0 :=
  PE_imp pe_dnewK fun σ H Q ⟨μ, ρ, st, Qd, he, hs, hm, k⟩ p hp => k.cellC hm hs hp ⟨[], upd_same, by simp only [RpK]⟩
theorem de_dit0 {pos : Pos} : DE K X (.Dict [] [] pos) mDit0 :=
  PE_imp pe_dnewT fun σ H Q ⟨μ, ρ, st, Qd, he, hs, hm, k⟩ p hp => k.cellC hm hs hp ⟨[], upd_same, by simp only [RpT]⟩
/-! ### o[tuple(e)] = d, o a dict whose keys are tuples -/
def putT (k : List DK) (d : D) : List (List DK × D) → List (List DK × D)
  | [] => [(k, d)]
  | (j, e) :: r => if j = k then (k, d) :: r else (j, e) :: putT k d r
def NdT (kvs : List (List DK × D)) : Prop := (kvs.map Prod.fst).Nodup
theorem kkL_inj : ∀ {a b : List DK}, a.map kk = b.map kk → a = b
  | [], [], _ => rfl
  | [], _ :: _, h => by simp at h
  | _ :: _, [], h => by simp at h
  | x :: a, y :: b, h => by
    rw [List.map_cons, List.map_cons, List.cons.injEq] at h
    rw [kk_inj h.1, kkL_inj h.2]
open Classical in
theorem RpT.put {H : Hp} {μ : Mu} {k : List DK} {d : D} {v : V} (q : Rp K H μ d v) : ∀ {ds : List (List DK × D)} {vs : List (List Key × V)}, RpT K H μ ds vs → NdT ds → RpT K H μ (putT k d ds) (putK vs (k.map kk) v) := by
  have has : ∀ {ds : List (List DK × D)} {vs : List (List Key × V)}, RpT K H μ ds vs → (vs.any fun kv => decide (kv.1 = k.map kk)) = decide (k ∈ ds.map Prod.fst) := by
    intro ds
    induction ds with
    | nil => intro vs h; simp only [RpT] at h; subst h; simp
    | cons p ds ih =>
      intro vs h
      simp only [RpT] at h
      obtain ⟨v', r, rfl, _, h2⟩ := h
      rw [List.any_cons, ih h2, List.map_cons]
      by_cases e : k = p.1
      · subst e; simp
      · have e' : ¬ p.1.map kk = k.map kk := fun z => e (kkL_inj z).symm
        simp [e, e']
  have none' : ∀ {ds : List (List DK × D)} {vs : List (List Key × V)}, RpT K H μ ds vs → k ∉ ds.map Prod.fst → vs.map (fun kv => if kv.1 = k.map kk then (kv.1, v) else kv) = vs ∧ putT k d ds = ds ++ [(k, d)] := by
    intro ds
    induction ds with
    | nil => intro vs h _; simp only [RpT] at h; subst h; exact ⟨rfl, rfl⟩
    | cons p ds ih =>
      intro vs h hn
      obtain ⟨j, e⟩ := p
      simp only [RpT] at h
      obtain ⟨v', r, rfl, _, h2⟩ := h
      simp only [List.map_cons, List.mem_cons, not_or] at hn
      obtain ⟨a, b⟩ := ih h2 hn.2
      have e1 : ¬ j.map kk = k.map kk := fun z => hn.1 (kkL_inj z).symm
      have e2 : ¬ j = k := fun z => hn.1 z.symm
      refine ⟨?_, ?_⟩
      · rw [List.map_cons, a, if_neg e1]
      · unfold putT; rw [if_neg e2, b]; rfl
  have behind : ∀ {ds : List (List DK × D)} {vs : List (List Key × V)}, RpT K H μ ds vs → RpT K H μ (ds ++ [(k, d)]) (vs ++ [(k.map kk, v)]) := by
    intro ds
    induction ds with
    | nil => intro vs h; simp only [RpT] at h; subst h; simp only [List.nil_append, RpT, RpQ]; exact ⟨v, [], rfl, q, rfl⟩
    | cons p ds ih =>
      intro vs h
      simp only [RpT] at h
      obtain ⟨v', r, rfl, h1, h2⟩ := h
      simp only [List.cons_append, RpT]
      exact ⟨v', _, rfl, h1, ih h2⟩
  intro ds vs h nd
  rw [putK_eq, has h]
  by_cases hm : k ∈ ds.map Prod.fst
  · rw [decide_eq_true hm, if_pos rfl]
    clear behind
    revert vs
    induction ds with
    | nil => intro vs h; cases hm
    | cons p ds ih =>
      intro vs h
      obtain ⟨j, e⟩ := p
      simp only [RpT] at h
      obtain ⟨v', r, rfl, h1, h2⟩ := h
      unfold NdT at nd
      simp only [List.map_cons, List.nodup_cons] at nd
      unfold putT
      by_cases ej : j = k
      · subst ej
        rw [if_pos rfl, List.map_cons, if_pos rfl]
        obtain ⟨a, _⟩ := none' h2 nd.1
        rw [a]
        simp only [RpT, RpQ]
        exact ⟨v, r, rfl, q, h2⟩
      · have ej' : ¬ j.map kk = k.map kk := fun z => ej (kkL_inj z)
        rw [if_neg ej, List.map_cons, if_neg ej']
        simp only [RpT]
        refine ⟨v', _, rfl, h1, ?_⟩
        simp only [List.map_cons, List.mem_cons] at hm
        exact ih nd.2 (hm.resolve_left fun z => ej z.symm) h2
  · rw [decide_eq_false hm, if_neg Bool.false_ne_true, (none' h hm).2]
    exact behind h
theorem RpT.len {H : Hp} {μ : Mu} : ∀ {ds : List (List DK × D)} {vs : List (List Key × V)}, RpT K H μ ds vs → ds.length = vs.length
  | [], vs, h => by simp only [RpT] at h; subst h; rfl
  | p :: ds, vs, h => by
    simp only [RpT] at h
    obtain ⟨v, r, rfl, _, h2⟩ := h
    rw [List.length_cons, List.length_cons, h2.len]
theorem RpL.keys {H : Hp} {μ : Mu} : ∀ {ks : List DK} {vs : List V}, RpL K H μ (ks.map keyOf) vs → vs = (ks.map kk).map kV
  | [], vs, h => by simp only [List.map_nil, RpL] at h; rw [h]; rfl
  | k :: ks, vs, h => by
    simp only [List.map_cons, RpL] at h
    obtain ⟨v, r, rfl, h1, h2⟩ := h
    rw [h2.keys]
    cases k with
    | inl i => simp only [keyOf, Rp] at h1; rw [h1]; rfl
    | inr l => simp only [keyOf, Rp] at h1; rw [h1]; rfl
def subT (st : Store) (o x d : D) (Q : Store → Prop) : Prop := ∃ (n : Nat) (kvs : List (List DK × D)) (ks : List DK), o = .cel n ∧ x = .lst (ks.map keyOf) ∧ st[n]? = some (.dit kvs) ∧ (NdT kvs ∧ kvs.length < 1000000) ∧ Q (st.set n (.dit (putT ks d kvs)))
def gSubT (f g : ME) : MG := fun d ρ st Q => f ρ st fun o st1 => g ρ st1 fun x st2 => subT st2 o x d fun st3 => Q ρ st3
theorem dg_subT {o e : Expr} {f g : ME} {p tpos pos : Pos} (hu : X.A.units + 1 < cLine) (ho : DE K X o f) (hm : X.mg "tuple" = none) (he : DE K X e g) (hK : X.K = K := by rfl) (hg : Gl X "tuple" := by rfl)
    (hs : starEach [e] X.env = (false, eval e X.env) :: starEach [] X.env := by rfl) (hpl : (backTo tpos (starEach [] X.env)).any (·.1) = false := by rfl)
    (ha : ∀ v, assign (.Subscript o (.Call (.Name "tuple" p) [e] [] tpos) pos) X.env v = (do
      let ov ← holding [v] (eval o X.env)
      let iv ← holding [v, ov] (eval (.Call (.Name "tuple" p) [e] [] tpos) X.env)
      standAt pos
      holding [v, ov, iv] (setItem ov iv v)
      release [v, ov, iv] []) := by intro _; rfl) : DG K X (.Subscript o (.Call (.Name "tuple" p) [e] [] tpos) pos) (gSubT f g) := by
  subst hK
  refine PG_imp (pg_sub ho (pe_callTy call_tuple_of hg hm (by decide +kernel) (pa_cons he pa_nil hs) (by decide) (by decide) hs hpl) (set_dict hu) ha) fun v σ H Q ⟨μ, ρ, st, d, Qd, rd, he, s, hm, k⟩ => ?_
  refine ⟨μ, ρ, st, _, he, s, hm, fun od st1 ov μ1 H1 q1 r1 s1 g1 => ?_⟩
  refine ⟨μ1, ρ, st1, _, he.go g1, s1, q1, fun x st2 xv μ2 H2 q2 r2 s2 g2 => ?_⟩
  obtain ⟨n, kvs, ks, rfl, rfl, hn, ⟨hnd, hlen⟩, q3⟩ := q2
  obtain ⟨a, vs, rfl, h4, h5⟩ := r2.lstAt s2 rfl
  refine ⟨a, vs, rfl, .inl ⟨h4, fun t ht => ?_⟩⟩
  have r1' := r1.go g2
  simp only [Rp] at r1'
  obtain ⟨c, rfl, hc⟩ := r1'
  obtain ⟨ws, hw, hr⟩ := s2.at_ n c _ hc hn
  have ct : c ≠ t := fun z => by rw [z, ht] at hw; cases hw
  have ek := h5.keys
  subst ek
  have s3 : RpS X.K (upd H2 t (.tup ((ks.map kk).map kV))) μ2 st2 := s2.new ht
  have g3 : Go H2 μ2 (upd H2 t (.tup ((ks.map kk).map kV))) μ2 := .new ht
  have hpm := List.mem_of_getElem? hc
  refine ⟨c, _, rfl, .t (by rw [upd_ne ct]; exact hw) upd_same (by rw [← hr.len, show sizeLine = 16777216 from sizeLine_eq]; omega), ?_⟩
  have g4 : Go (upd H2 t (.tup ((ks.map kk).map kV))) μ2 (upd (upd H2 t (.tup ((ks.map kk).map kV))) c (.dT (putK ws (ks.map kk) v))) μ2 := .cellSet hpm
  refine k _ _ _ _ _ q3 (he.go (((g1.trans g2).trans g3).trans g4)) (s3.cellSet hc ⟨_, upd_same, ?_⟩) (((g1.trans g2).trans g3).trans g4)
  exact (RpT.put ((rd.go ((g1.trans g2).trans g3))) (hr.go g3) hnd).go g4
end
end DL
set_option Elab.async false
set_option linter.all false
set_option maxRecDepth 100000
set_option maxHeartbeats 2000000
/-! sorted of data -/
namespace DL
open PySem PySem.Spec PyProof.Rows L2 Nf
def leD (a b : D) : Bool := PySem.W.dataLe false py a b
def srtD (ds : List D) : List D := ds.mergeSort leD
/-- what can be sorted: all of one kind -/
structure SortOk (ds : List D) : Prop where
  dat : ∀ d ∈ ds, Dat d = true
  alike : PySem.W.AllAlike (ds.map py)
  able : PySem.W.Sortable (ds.map py)
  flat : ∀ d ∈ ds, (py d).depth ≤ 8
  few : ds.length ≤ 1000000
theorem each_of {K : PySem.W.Frag} {H : Hp} {μ : Mu} : ∀ {ds : List D} {vs : List V} {us : List Value}, RpL K H μ ds vs → Vals vs us → PySem.W.EachIs (fun u (b : V × D) => RelV b.1 u ∧ Rp K H μ b.2 b.1) us (vs.zip ds) ∧ (vs.zip ds).map Prod.snd = ds ∧ (vs.zip ds).length = ds.length
  | [], vs, us, r, h => by
    simp only [RpL] at r
    subst r
    cases h
    exact ⟨.nil, rfl, rfl⟩
  | d :: ds, vs, us, r, h => by
    simp only [RpL] at r
    obtain ⟨v, w, rfl, h1, h2⟩ := r
    cases h with
    | cons a t =>
      obtain ⟨e1, e2, e3⟩ := each_of h2 t
      refine ⟨.cons ⟨a, h1⟩ e1, ?_, ?_⟩
      · rw [List.zip_cons_cons, List.map_cons, e2]
      · rw [List.zip_cons_cons, List.length_cons, e3]; rfl
theorem each_back {K : PySem.W.Frag} {H : Hp} {μ : Mu} : ∀ {us : List Value} {bs : List (V × D)}, PySem.W.EachIs (fun u (b : V × D) => RelV b.1 u ∧ Rp K H μ b.2 b.1) us bs → Vals (bs.map Prod.fst) us ∧ RpL K H μ (bs.map Prod.snd) (bs.map Prod.fst)
  | _, _, .nil => ⟨.nil, .nil⟩
  | _, _, .cons h t => ⟨.cons h.1 (each_back t).1, .cons h.2 (each_back t).2⟩
section
variable {K : PySem.W.Frag} {X : Cx}
def cSortV : MC := fun st ds Q => match ds with
  | [d] => match dr st d with
    | .lst xs => SortOk xs ∧ Q (.lst (srtD xs)) st
    | _ => False
  | _ => False
theorem dc_sortV (hu : X.A.units + 64 < cLine) (hK : X.K = K := by rfl) : CallR X (.builtin "sorted") (lC K cSortV) := by
  subst hK
  intro pins s σ H xs us Q I r hh
  obtain ⟨μ, st, ds, Qd, rl, sS, hm, k⟩ := hh
  unfold cSortV at hm
  split at hm
  · rename_i d
    obtain ⟨v, rfl, rd⟩ := rl.one
    split at hm
    · rename_i ys hdr
      obtain ⟨hok, q⟩ := hm
      obtain ⟨a, vs, rfl, hs, hr⟩ := rd.lstAt sS hdr
      obtain ⟨u, rfl, ru⟩ := r.one
      obtain rfl : u = Value.ref a := ru
      obtain ⟨its, rv, hl, hz⟩ := I.list hs
      obtain ⟨e1, e2, e3⟩ := each_of hr rv
      have hsz : sizeLine = 16777216 := sizeLine_eq
      have em : (vs.zip ys).map (fun b : V × D => py b.2) = ys.map py := by
        have : (fun b : V × D => py b.2) = py ∘ Prod.snd := rfl
        rw [this, ← List.map_map, e2]
      have hd : ∀ b ∈ vs.zip ys, b.2 ∈ ys := fun b hb => by rw [← e2]; exact List.mem_map.mpr ⟨b, hb, rfl⟩
      refine PySem.W.sorted_data (β := V × D) (enc := fun b => py b.2) (bs := vs.zip ys) hl.isList e1 ?_ (by rw [em]; exact hok.alike) (by rw [em]; exact hok.able) (by rw [e3]; have := hok.few; omega) (fun b hb => ?_) fun out hlen hout => ?_
      · refine (PySem.W.each_mem e1).mono fun u b ⟨hb, hmem⟩ => ?_
        exact Dp.reads I (py b.2) b.1 u (hb.2.dp (hok.dat _ (hd b hmem))) hb.1
      · have := hok.flat _ (hd b hb)
        omega
      · obtain ⟨w1, w2⟩ := each_back hout
        obtain ⟨e, he⟩ := PyProof.Rows.sortedAll_at s.heap its (List.toArray out)
        have es : ((vs.zip ys).mergeSort (PySem.W.dataLe false fun b : V × D => py b.2)).map Prod.snd = srtD ys := by
          have z := List.map_mergeSort (r := PySem.W.dataLe false fun b : V × D => py b.2) (s := leD) (f := Prod.snd) (l := vs.zip ys) (fun a _ b _ => rfl)
          rw [z, e2]; rfl
        have hp : H (s.heap.objs.size + 1) = none := I.hok.fresh (by omega)
        refine ⟨.ref (s.heap.objs.size + 1), upd H (s.heap.objs.size + 1) (.lst _), I.laid (t' := s.toks) (fun b o hb => PyProof.Rows.sortedAll_old hb) (by omega) ⟨?_, out, e, w1, he⟩, rfl, ?_⟩
        · rw [List.length_map, List.length_mergeSort, e3]
          have := hok.few; omega
        · rw [es] at w2
          exact k.lst q w2 sS hp
    · exact hm.elim
  · exact hm.elim
/-! sorted of a dict whose keys are texts -/
theorem dic_keys {H : Hp} {μ : Mu} : ∀ {kvs : List (DK × D)} {vs : List (Key × V)} {ls : List (List Nat)}, RpK K H μ kvs vs → kvs.map Prod.fst = ls.map Sum.inr → vs.map (·.1) = (ls.map tx).map Sum.inr
  | [], vs, [], r, _ => by simp only [RpK] at r; subst r; rfl
  | [], _, _ :: _, _, h => by simp at h
  | _ :: _, _, [], _, h => by simp at h
  | p :: kvs, vs, l :: ls, r, h => by
    simp only [RpK] at r
    obtain ⟨v, w, rfl, _, h2⟩ := r
    rw [List.map_cons, List.map_cons, List.cons.injEq] at h
    rw [List.map_cons, dic_keys h2 h.2, h.1]
    rfl
def cSortDic : MC := fun st ds Q => match ds with
  | [d] => match dr st d with
    | .dic kvs => ∃ ls : List (List Nat), kvs.map Prod.fst = ls.map Sum.inr ∧ ls.length < 64 ∧ Q (.lst ((srt ls).map D.str)) st
    | _ => False
  | _ => False
theorem dc_sortDic (hc : X.calm = true) (hK : X.K = K := by rfl) : CallR X (.builtin "sorted") (lC K cSortDic) := by
  subst hK
  refine CallR_imp (call_sortedD hc) fun xs H Q hh => ?_
  obtain ⟨μ, st, ds, Qd, r, s, hm, k⟩ := hh
  unfold cSortDic at hm
  split at hm
  · rename_i d
    obtain ⟨v, rfl, rd⟩ := r.one
    split at hm
    · rename_i kvs hdr
      obtain ⟨ls, hk, hl, q⟩ := hm
      obtain ⟨a, vs, rfl, ha, hr⟩ := rd.dicAt s hdr
      refine ⟨a, vs, ls.map tx, rfl, ha, dic_keys hr hk, by rw [List.length_map]; exact hl, fun ys p hp hs ht => ?_⟩
      rw [sorted_is hp hs, ← vtx_map]
      exact k.lst q (.ofStrs _) s ht
    · exact hm.elim
  · exact hm.elim
end
end DL
set_option Elab.async false
set_option linter.all false
set_option maxRecDepth 100000
set_option maxHeartbeats 2000000
/-! sorted of a dict whose keys are tuples -/
namespace DL
open PySem PySem.Spec PyProof.Rows L2 Nf
def keysT (kvs : List (List DK × D)) : List D := kvs.map fun p => D.tup (p.1.map keyOf)
theorem RpL.ofKeys {K : PySem.W.Frag} {H : Hp} {μ : Mu} : ∀ ks : List DK, RpL K H μ (ks.map keyOf) ((ks.map kk).map kV)
  | [] => .nil
  | .inl i :: ks => .cons (by simp only [keyOf, Rp]; rfl) (RpL.ofKeys ks)
  | .inr l :: ks => .cons (by simp only [keyOf, Rp]; rfl) (RpL.ofKeys ks)
theorem reads_keys {h : Heap} : ∀ {ks : List DK} {us : List Value}, Vals ((ks.map kk).map kV) us → ReadsAll h us (pyL (ks.map keyOf)) []
  | [], _, .nil => .nil
  | .inl i :: ks, _, .cons r t => by
    obtain ⟨tk, rfl⟩ := r
    have := ReadsAll.cons (Reads.int (h := h) i tk) (reads_keys t)
    exact this
  | .inr l :: ks, _, .cons r t => by
    obtain ⟨tk, rfl⟩ := r
    have := ReadsAll.cons (Reads.str (h := h) (tx l) tk) (reads_keys t)
    exact this
theorem dit_each {K : PySem.W.Frag} {H : Hp} {μ : Mu} : ∀ {kvs : List (List DK × D)} {vs : List (List Key × V)} {xs : List (List Key × Addr × Value)}, RpT K H μ kvs vs → KT H vs xs →
    PySem.W.EachIs (fun u (b : Addr × List DK) => u = Value.ref b.1 ∧ H b.1 = some (.tup ((b.2.map kk).map kV))) (xs.map fun x => Value.ref x.2.1) ((xs.map fun x => x.2.1).zip (kvs.map Prod.fst)) ∧ ((xs.map fun x => x.2.1).zip (kvs.map Prod.fst)).map Prod.snd = kvs.map Prod.fst ∧ xs.length = kvs.length
  | [], vs, xs, r, h => by
    simp only [RpT] at r
    subst r
    cases h
    exact ⟨.nil, rfl, rfl⟩
  | p :: kvs, vs, xs, r, h => by
    simp only [RpT] at r
    obtain ⟨v, w, rfl, _, h2⟩ := r
    cases h with
    | cons a t =>
      obtain ⟨e1, e2, e3⟩ := dit_each h2 t
      obtain ⟨a1, a2, a3⟩ := a
      refine ⟨.cons ⟨rfl, a2⟩ e1, ?_, by rw [List.length_cons, List.length_cons, e3]⟩
      rw [List.map_cons, List.map_cons, List.zip_cons_cons, List.map_cons, e2]
section
variable {K : PySem.W.Frag} {X : Cx}
theorem off_tup {H : Hp} {μ : Mu} {st : Store} (s : RpS K H μ st) {b : Addr} {vs : List V} (h : H b = some (.tup vs)) : μ.off b := by
  refine ⟨fun z => ?_, fun z => ?_⟩
  · obtain ⟨n, hn⟩ := List.mem_iff_getElem?.mp z
    have hl : n < st.length := by rw [← s.len]; exact (List.getElem?_eq_some_iff.mp hn).1
    have hc := s.at_ n b _ hn (List.getElem?_eq_getElem hl)
    cases e : st[n] with
    | lst xs => rw [e] at hc; obtain ⟨_, q, _⟩ := hc; rw [h] at q; cases q
    | dic xs => rw [e] at hc; obtain ⟨_, q, _⟩ := hc; rw [h] at q; cases q
    | dit xs => rw [e] at hc; obtain ⟨_, q, _⟩ := hc; rw [h] at q; cases q
    | ins C xs => rw [e] at hc; obtain ⟨_, _, q, _⟩ := hc; rw [h] at q; cases q
    | tab P q => rw [e] at hc; obtain ⟨rfl, _, q, _⟩ := hc; rw [h] at q; cases q
  · obtain ⟨_, o, q, l⟩ := s.hid b z
    rw [h] at q; cases q
    exact l
def cSortDit : MC := fun st ds Q => match ds with
  | [d] => match dr st d with
    | .dit kvs => SortOk (keysT kvs) ∧ Q (.lst (srtD (keysT kvs))) st
    | _ => False
  | _ => False
theorem rp_keys {H : Hp} {μ : Mu} {st : Store} (s : RpS K H μ st) : ∀ {us : List Value} {bs : List (Addr × List DK)}, PySem.W.EachIs (fun u (b : Addr × List DK) => u = Value.ref b.1 ∧ H b.1 = some (.tup ((b.2.map kk).map kV))) us bs →
    Vals (bs.map fun b => V.ref b.1) us ∧ RpL K H μ (bs.map fun b => D.tup (b.2.map keyOf)) (bs.map fun b => V.ref b.1)
  | _, _, .nil => ⟨.nil, .nil⟩
  | _, _, .cons h t => by
    obtain ⟨w1, w2⟩ := rp_keys s t
    obtain ⟨rfl, h2⟩ := h
    refine ⟨.cons rfl w1, .cons ?_ w2⟩
    simp only [Rp]
    exact ⟨_, _, rfl, .inl ⟨off_tup s h2, .inl h2⟩, RpL.ofKeys _⟩
theorem dc_sortDit (hc : X.calm = true) (hu : X.A.units + 64 < cLine) (hK : X.K = K := by rfl) : CallR X (.builtin "sorted") (lC K cSortDit) := by
  subst hK
  intro pins s σ H xs us Q I r hh
  obtain ⟨μ, st, ds, Qd, rl, sS, hm, k⟩ := hh
  unfold cSortDit at hm
  split at hm
  · rename_i d
    obtain ⟨v, rfl, rd⟩ := rl.one
    split at hm
    · rename_i kvs hdr
      obtain ⟨hok, q⟩ := hm
      obtain ⟨a, vs, rfl, ha, hr⟩ := rd.ditAt sS hdr
      obtain ⟨u, rfl, ru⟩ := r.one
      obtain rfl : u = Value.ref a := ru
      obtain ⟨z, hs, ks, pr, o, es, ep, ho, hx, hdt, he, hn⟩ := (show ObjOk X.prog X.w H s.heap a (.dT vs) from ha.ok I.hok)
      have l1 : es.size = ks.length := size_of_entries he
      obtain ⟨e1, e2, e3⟩ := dit_each hr pr
      have hsz : sizeLine = 16777216 := sizeLine_eq
      have hfew := hok.few
      rw [keysT, List.length_map] at hfew
      refine Calls.call_function_entry PyProof.Rows.kind_sorted PyProof.Rows.plain_sorted PyProof.Rows.entry_sorted (PyProof.Rows.args_sorted1 _) ?_
      unfold Builtin.«sorted»
      refine wpAny_bind (m := checkCount "sorted" 1 1 _) (wpAny_pure ?_)
      refine wpAny_bind (PySem.W.kdu_collect (A := X.A.in1) (kdl_raw hs hx hdt) (I.ok.hd hc) ho (by omega) fun h' tk acc hk it => ?_)
      have ea : acc.toList = ks.map fun x => Value.ref x.2.1 := by
        have hl : acc.toList.length = ks.length := by rw [Array.length_toList, it.1]; exact l1
        apply List.ext_getElem?
        intro j
        rw [List.getElem?_map]
        by_cases hj : j < acc.toList.length
        · obtain ⟨en, hen, hv⟩ := it.2 j acc.toList[j] (by rw [← Array.getElem?_toList]; exact List.getElem?_eq_getElem hj)
          have qe := entry_at he j
          rw [hen] at qe
          have hb : ks[j]? = some ks[j] := List.getElem?_eq_getElem (by omega)
          rw [hb] at qe
          have e2 : en = entryOfKey (tupleKind (mixKind X.prog X.w)) ks[j] := Option.some.inj qe
          rw [List.getElem?_eq_getElem hj, hv, hb, e2]; rfl
        · rw [List.getElem?_eq_none (by omega), List.getElem?_eq_none (by omega)]; rfl
      have hal : acc.toList.length = kvs.length := by rw [ea, List.length_map, e3]
      have e1' := e1
      rw [← ea] at e1'
      have I1 : Inv X pins σ H { s with heap := h', toks := tk } := I.kept hk
      refine wpAny_bind (wpAny_newList ?_ (by rw [hal]; omega))
      have hoL : (h'.push (seqObj "list" acc.toList.toArray 0)).get? h'.objs.size = some (seqObj "list" acc.toList.toArray 0) := Heap.get?_push_size _ rfl
      show wpAny _ _ _ _ _ { s with heap := h'.push (seqObj "list" acc.toList.toArray 0), toks := tk }
      have hbsl : ((ks.map fun x => x.2.1).zip (kvs.map Prod.fst)).length = kvs.length := by rw [List.length_zip, List.length_map, List.length_map, e3, Nat.min_self]
      have ef : ((ks.map fun x => x.2.1).zip (kvs.map Prod.fst)).map (fun b => D.tup (b.2.map keyOf)) = keysT kvs := by
        have : (fun b : Addr × List DK => D.tup (b.2.map keyOf)) = (fun k => D.tup (k.map keyOf)) ∘ Prod.snd := rfl
        rw [this, ← List.map_map, e2, List.map_map]; rfl
      have em : ((ks.map fun x => x.2.1).zip (kvs.map Prod.fst)).map (fun b => py (D.tup (b.2.map keyOf))) = (keysT kvs).map py := by
        rw [← ef, List.map_map]; rfl
      refine wpAny_bind (wpAny_holding (PySem.W.list_sort_data (β := Addr × List DK) (enc := fun b => py (D.tup (b.2.map keyOf))) (bs := (ks.map fun x => x.2.1).zip (kvs.map Prod.fst)) (s := { s with heap := h'.push (seqObj "list" acc.toList.toArray 0), toks := tk }) hoL e1' ?_ (by rw [em]; exact hok.alike) (by rw [em]; exact hok.able) (by rw [hbsl]; omega) (fun b hb => ?_) fun out hlen hout => ?_))
      · refine e1'.mono fun u b hb => ?_
        obtain ⟨rfl, hb⟩ := hb
        obtain ⟨_, its, rr, o2, q1, q2, n2, q3⟩ := (show ObjOk X.prog X.w H h' b.1 (.tup ((b.2.map kk).map kV)) from I1.hok _ _ hb)
        have g := Heap.get?_push_of_some (seqObj "list" acc.toList.toArray 0) q1
        have rr2 := reads_keys (h := h'.push (seqObj "list" acc.toList.toArray 0)) rr
        refine ⟨[], ?_, by simp⟩
        show Reads _ _ (.tuple (pyL (b.2.map keyOf))) []
        exact Reads.tuple g q2 q3 rr2
      · have hm : D.tup (b.2.map keyOf) ∈ keysT kvs := by rw [← ef]; exact List.mem_map.mpr ⟨b, hb, rfl⟩
        have := hok.flat _ hm
        show X.A.units + 1 + 1 + (py (D.tup (b.2.map keyOf))).depth < cLine
        omega
      · obtain ⟨w1, w2⟩ := rp_keys sS hout
        obtain ⟨e', he'⟩ := PyProof.Rows.sortedHeap_at (vs := acc.toList) (out := out.toArray) hoL
        have es : (((ks.map fun x => x.2.1).zip (kvs.map Prod.fst)).mergeSort (PySem.W.dataLe false fun b : Addr × List DK => py (D.tup (b.2.map keyOf)))).map (fun b => D.tup (b.2.map keyOf)) = srtD (keysT kvs) := by
          have z := List.map_mergeSort (r := PySem.W.dataLe false fun b : Addr × List DK => py (D.tup (b.2.map keyOf))) (s := leD) (f := fun b : Addr × List DK => D.tup (b.2.map keyOf)) (l := (ks.map fun x => x.2.1).zip (kvs.map Prod.fst)) (fun a _ b _ => rfl)
          rw [z, ef]; rfl
        have hp : H h'.objs.size = none := I1.hok.fresh (Nat.le_refl _)
        refine wpAny_pure ⟨_, rfl, .ref h'.objs.size, upd H h'.objs.size (.lst _), I1.laid (t' := tk) (fun b u e => ?_) (Nat.le_refl _) (show ObjOk X.prog X.w _ _ _ (.lst _) from ⟨?_, out, e', w1, he'⟩), rfl, ?_⟩
        · have hb : b < h'.objs.size := Heap.lt_size e
          rw [PyProof.Rows.sortedHeap_old (Nat.ne_of_lt hb) (by rw [size_push']; exact Nat.lt_succ_of_lt hb)]
          exact Heap.get?_push_of_some _ e
        · rw [List.length_map, List.length_mergeSort, hbsl]; omega
        · rw [es] at w2
          exact k.lst q w2 sS hp
    · exact hm.elim
  · exact hm.elim
end
end DL
namespace DL
open PySem PySem.Spec PyProof.Rows L2 Nf
section
variable {K : PySem.W.Frag} {X : Cx}
/-! ### in a list of data -/
def oInDat (neg : Bool) : MO := fun st a b Q => match dr st b with
  | .lst xs => ((Dat a = true ∧ DatL xs = true) ∧ SeqAt.shaped (py a) = true ∧ SeqAt.shaped (py (.lst xs)) = true) ∧ Q (.bl (neg != xs.any fun z => PyData.eqv (py z) (py a))) st
  | _ => False
theorem any_pyL (p : PyData → Bool) : ∀ xs : List D, (pyL xs).any p = xs.any fun z => p (py z)
  | [] => rfl
  | x :: xs => by rw [pyL, List.any_cons, List.any_cons, any_pyL p xs]
theorem do_notinDat (hu : X.A.units + 65 < cLine) (hK : X.K = K := by rfl) : OpR X (compareOp .NotIn) (lO K (oInDat true)) := by
  subst hK
  refine OpR_imp (op_notInD hu) fun x y H Q hh => ?_
  obtain ⟨μ, st, a, b, Qd, ra, rb, s, hm, k⟩ := hh
  unfold oInDat at hm
  split at hm
  · rename_i xs e
    obtain ⟨⟨⟨h1, h2⟩, h3, h4⟩, q⟩ := hm
    refine ⟨py a, pyL xs, ra.dp h1, ?_, h3, by rw [py] at h4; exact h4, ?_⟩
    · have := rb.drAt s (by rw [e, Dat]; exact h2)
      rw [e, py] at this
      exact this
    · rw [any_pyL]
      refine k.at ?_ (.bl _ _ _) s
      have e2 : (true != xs.any fun z => PyData.eqv (py z) (py a)) = !(xs.any fun z => PyData.eqv (py z) (py a)) := by cases xs.any _ <;> rfl
      rw [e2] at q
      exact q
  · exact hm.elim
end
end DL
namespace DL
open PySem PySem.Spec PyProof.Rows L2 Nf
theorem hu65 {k : Nat} {A : Around} (r : Room k A) : A.units + 65 < cLine := by have := r.un; omega
end DL
set_option Elab.async false
set_option linter.all false
set_option maxRecDepth 100000
set_option maxHeartbeats 2000000
/-! combinations(range(n), r) -/
namespace DL
open PySem PySem.Spec PyProof.Rows L2 Nf CpComb
theorem pi_combR {X : Cx} {tg e : Expr} {ta : TE} {p p2 pos pos2 cpos : Pos} {i : Int} {j : Nat} (hc : X.calm = true) (hm : X.mg "combinations" = some (.type "itertools.combinations")) (hm2 : X.mg "range" = none) (ha : PE X e ta) (hg : Gl X "combinations" := by rfl) (hg2 : Gl X "range" := by rfl)
    (na : starEach [e] X.env = (false, eval e X.env) :: starEach [] X.env := by rfl)
    (hs : starEach [.Call (.Name "range" p2) [e] [] pos2, .Constant (.int i) j cpos] X.env = (false, eval (.Call (.Name "range" p2) [e] [] pos2) X.env) :: starEach [.Constant (.int i) j cpos] X.env := by rfl)
    (hs2 : starEach [.Constant (.int i) j cpos] X.env = (false, eval (.Constant (.int i) j cpos) X.env) :: starEach [] X.env := by rfl) (hpl : (backTo pos (starEach [.Constant (.int i) j cpos] X.env)).any (·.1) = false := by rfl) :
    PI X tg (.Call (.Name "combinations" p) [.Call (.Name "range" p2) [e] [] pos2, .Constant (.int i) j cpos] [] pos)
      (fun σ H R => ta σ H fun x H1 => ∃ n : Int, x = .int n ∧ ((0 : Int) = 0 ∧ ∃ (r : Nat) (rows : List (List Nat)), i = r ∧ r ≤ 1000 ∧ RgOk 0 n ∧ Chain (rgV 0 n).length r rows ∧ R (Itcb (rgV 0 n) rows) H1)) := by
  refine ⟨fun pins s σ H R I h => ?_⟩
  refine Call_ (ld_glob I hg hm (PyProof.Rows.callWith_type1 (args_cons (thn (prg_1 (p := p2) (pos := pos2) hg2 hm2 ha na pins s σ H (fun a b H1 => a = 0 ∧ ∃ (r : Nat) (rows : List (List Nat)), i = r ∧ r ≤ 1000 ∧ RgOk 0 b ∧ Chain (rgV 0 b).length r rows ∧ R (Itcb (rgV 0 b) rows) H1) I h) fun x s1 h1 => ?_) hs) hs hpl))
  obtain ⟨r, a, b, t, u, v, H1, rfl, hr, I1, rfl, k, rows, rfl, hk, ok, ch, q⟩ := h1
  refine args_cons (wpAny_Constant_int (args_nil ?_)) hs2
  obtain ⟨b1, b2, b3, b4, b5⟩ := ok
  refine call_comb hk (collect_range (I1.ok.hd hc) hr (small_one b1 b2 b3 b4) (rangeSize_nat 0 b) b5 fun h' tk acc hkeep hi => ?_)
  have rv := vals_rg hi
  have I2 : Inv X pins σ H1 { s1 with heap := h', toks := tk } := I1.kept hkeep
  have hl : (rgV 0 b).length = acc.toList.length := rv.length
  have hsz : acc.toList.length ≤ sizeLine := by rw [← hl, rgV_length, sizeLine_eq]; omega
  refine ⟨hsz, fun h'' hp hit hsz' hk' => ?_⟩
  have I3 : Inv X pins σ H1 { s1 with heap := h'', toks := tk } := I2.kept (t' := tk) hk'
  refine comb_iter hit ?_
  refine ⟨h'.objs.size + 1, [h'.objs.size + 1, h'.objs.size], _, _, H1, rfl, I3, turn_comb (by simp) rv hk (hl ▸ ch), ⟨hp, .inl ⟨rfl, hit⟩⟩, fun c hcm => ?_, q⟩
  have e' : c = h'.objs.size + 1 ∨ c = h'.objs.size := by simpa using hcm
  have hle : h'.objs.size ≤ c := by
    rcases e' with z | z
    · rw [z]; exact Nat.le_add_right _ _
    · rw [z]; exact Nat.le_refl _
  exact I2.fpOk hle (I2.hok.fresh hle)
section
variable {K : PySem.W.Frag} {X : Cx}
theorem rg_rp {H : Hp} {μ : Mu} (a : Int) : ∀ ls : List Nat, RpL K H μ (ls.map fun i => D.int (a + (i : Nat))) (ls.map fun i => V.int (a + (i : Nat)))
  | [] => .nil
  | i :: ls => .cons (by simp only [Rp]) (rg_rp a ls)
def iCbR (i : Int) (f : ME) : MI := fun ρ st Q => f ρ st fun d st1 => isI d fun n => ((0 ≤ n ∧ n ≤ 7) ∧ 0 ≤ i ∧ i ≤ 8) ∧ Q ((combA i.toNat (rngD 0 n.toNat)).map D.tup) (fun _ => True) st1
theorem di_combR {tg e : Expr} {f : ME} {p p2 pos pos2 cpos : Pos} {i : Int} {j : Nat} (hc : X.calm = true) (hm : X.mg "combinations" = some (.type "itertools.combinations")) (hm2 : X.mg "range" = none) (he : DE K X e f) (hK : X.K = K := by rfl) (hg : Gl X "combinations" := by rfl) (hg2 : Gl X "range" := by rfl)
    (na : starEach [e] X.env = (false, eval e X.env) :: starEach [] X.env := by rfl)
    (hs : starEach [.Call (.Name "range" p2) [e] [] pos2, .Constant (.int i) j cpos] X.env = (false, eval (.Call (.Name "range" p2) [e] [] pos2) X.env) :: starEach [.Constant (.int i) j cpos] X.env := by rfl)
    (hs2 : starEach [.Constant (.int i) j cpos] X.env = (false, eval (.Constant (.int i) j cpos) X.env) :: starEach [] X.env := by rfl) (hpl : (backTo pos (starEach [.Constant (.int i) j cpos] X.env)).any (·.1) = false := by rfl) :
    DI K X tg (.Call (.Name "combinations" p) [.Call (.Name "range" p2) [e] [] pos2, .Constant (.int i) j cpos] [] pos) (iCbR i f) := by
  subst hK
  refine PI_imp (pi_combR hc hm hm2 he hg hg2 na hs hs2 hpl) fun σ H R ⟨μ, ρ, st, Qi, he, hs, hm, k⟩ => ?_
  refine ⟨μ, ρ, st, _, he, hs, hm, fun d st1 v μ1 H1 q1 r1 s1 g1 => ?_⟩
  obtain ⟨n, rfl, rfl, ⟨⟨n0, n7⟩, i0, i8⟩, q⟩ := r1.int_of q1
  have en : (n - 0).toNat = n.toNat := by omega
  have hl : (rgV 0 n).length = n.toNat := by rw [rgV_length, en]
  have rl : RpL X.K H1 μ1 (rngD 0 n.toNat) (rgV 0 n) := by
    unfold rngD rgV
    rw [en]
    exact rg_rp 0 _
  refine ⟨n, rfl, rfl, i.toNat, combIx i.toNat (List.range n.toNat), by omega, by omega, .of_le (by decide) (by omega) (by decide) n0, ?_, ?_⟩
  · rw [hl]; exact chain7 (by omega) (by omega)
  · have w := wk_comb (K := X.K) (H := H1) (μ := μ1) (r := i.toNat) rl
    rw [hl] at w
    exact k _ _ _ _ _ _ q w s1 g1
end
end DL
namespace DL
open PySem PySem.Spec PyProof.Rows L2 Nf
theorem do_inDat {K : PySem.W.Frag} {X : Cx} (hu : X.A.units + 65 < cLine) (hK : X.K = K := by rfl) : OpR X (compareOp .In) (lO K (oInDat false)) := by
  subst hK
  refine OpR_imp (op_inD hu) fun x y H Q hh => ?_
  obtain ⟨μ, st, a, b, Qd, ra, rb, s, hm, k⟩ := hh
  unfold oInDat at hm
  split at hm
  · rename_i xs e
    obtain ⟨⟨⟨h1, h2⟩, h3, h4⟩, q⟩ := hm
    refine ⟨py a, pyL xs, ra.dp h1, ?_, h3, by rw [py] at h4; exact h4, ?_⟩
    · have := rb.drAt s (by rw [e, Dat]; exact h2)
      rw [e, py] at this
      exact this
    · rw [any_pyL]
      refine k.at ?_ (.bl _ _ _) s
      have e2 : (false != xs.any fun z => PyData.eqv (py z) (py a)) = (xs.any fun z => PyData.eqv (py z) (py a)) := by cases xs.any _ <;> rfl
      rw [e2] at q
      exact q
  · exact hm.elim
end DL
set_option Elab.async false
set_option linter.all false
set_option maxRecDepth 100000
set_option maxHeartbeats 4000000
/-! lists of letters: pure -/
namespace Nd
open PySem PySem.Spec PyProof.Rows L2 Nf DL
def lettersL : List Nat := (List.range 26).map (· + 97)
def isLotM (v l : List Nat) : Bool := decide (v = l.filter fun c => decide (c ∈ v))
def isPairM (v l : List Nat) : Bool := isLotM v l && decide (v.length = 2)
def isPartingM (v l : List Nat) : Bool := isLotM v (l.drop 1) && decide (0 < v.length)
def isPartedM (p : List Nat) (a b : Nat) : Bool := decide (a ∈ p) != decide (b ∈ p)
def otherM (l p : List Nat) : List Nat := l.filter fun c => !decide (c ∈ p)
def lotsL (l : List Nat) : List (List Nat) := (List.range l.length).flatMap fun k => combIx (k + 1) l
theorem lots_all : ((List.range 7).all fun n => decide ((lotsL (List.range n)).length < 64)) = true := by decide +kernel
theorem lots_small {l : List Nat} (h : l.length ≤ 6) : (lotsL l).length < 64 := by
  have e : (lotsL l).length = (lotsL (List.range l.length)).length := by
    unfold lotsL
    rw [List.length_flatMap, List.length_flatMap, List.length_range]
    congr 1
    refine List.map_congr_left fun k _ => ?_
    rw [← comb_rows (k + 1) l, List.length_map]
  rw [e]
  exact of_decide_eq_true (List.all_eq_true.mp lots_all l.length (List.mem_range.mpr (by omega)))
theorem range_flat {α : Type} (g : Nat → List α) (i : Nat) : (List.range (i + 1)).flatMap g = (List.range i).flatMap g ++ g i := by
  rw [List.range_succ, List.flatMap_append]; simp
theorem erase_perm : ∀ (l : List Nat) (i : Nat) (h : i < l.length), (l[i] :: l.eraseIdx i).Perm l
  | a :: l, 0, _ => List.Perm.refl _
  | a :: l, i + 1, h => (List.Perm.swap _ _ _).trans ((erase_perm l i (Nat.lt_of_succ_lt_succ h)).cons a)
theorem seq_nat {k n : Nat} (h : k < n) : seqIndex? (k : Int) n = some k := by
  unfold seqIndex?
  have h1 : ¬ ((k : Int) < 0) := by omega
  simp only [h1, if_false]
  have h2 : (0 : Int) ≤ k := by omega
  have h3 : (k : Int) < n := by omega
  simp [h2, h3]
theorem letters_pre : ((List.range 8).all fun m => isLotM (lettersL.take m) lettersL && decide ((lettersL.take m).length = m)) = true := by decide +kernel
theorem letters_rise : lettersL.Pairwise (· < ·) := by decide +kernel
theorem lot_of {row : List Nat} (hn : row.Nodup) (hs : ∀ c ∈ row, c ∈ lettersL) : (srt (row.map fun c => [c])).flatten = lettersL.filter (fun c => decide (c ∈ row)) ∧ isLotM (lettersL.filter fun c => decide (c ∈ row)) lettersL = true ∧ (lettersL.filter fun c => decide (c ∈ row)).length = row.length := by
  have ln : lettersL.Nodup := letters_rise.imp fun h => Nat.ne_of_lt h
  have hp : (lettersL.filter fun c => decide (c ∈ row)).Perm row := by
    refine (List.perm_ext_iff_of_nodup (List.filter_sublist.nodup ln) hn).mpr fun a => ?_
    rw [List.mem_filter, decide_eq_true_iff]
    exact ⟨fun h => h.2, fun h => ⟨hs a h, h⟩⟩
  have e : (lettersL.filter fun c => decide (c ∈ row)).map (fun c => [c]) = srt (row.map fun c => [c]) := by
    refine srt_unique (hp.map _) (List.pairwise_map.mpr ((letters_rise.sublist List.filter_sublist).imp fun {a b} h => ?_))
    unfold leB
    simp [ltCps]
    omega
  refine ⟨by rw [← e, flat1], ?_, hp.length_eq⟩
  unfold isLotM
  refine decide_eq_true (List.filter_congr fun c hc => ?_)
  exact decide_eq_decide.mpr ⟨fun h => List.mem_filter.mpr ⟨hc, decide_eq_true h⟩, fun h => of_decide_eq_true (List.mem_filter.mp h).2⟩
def Nm (l : List Nat) (a b : Nat) : Prop := isLotM l lettersL = true ∧ a ≤ l.length ∧ l.length ≤ b
/-! ### two of a row -/
def twosTo (l : List Nat) (i : Nat) : List (List Nat) := (List.range i).flatMap fun k => (l.drop (k + 1)).map fun m => [l.getD k 0, m]
theorem comb1 : ∀ l : List Nat, combIx 1 l = l.map fun m => [m]
  | [] => rfl
  | a :: l => by rw [combIx, comb1 l, List.map_cons]; simp [combIx]
theorem twos_all : ∀ l : List Nat, twosTo l l.length = combIx 2 l
  | [] => rfl
  | a :: l => by
    have ih := twos_all l
    rw [combIx, comb1, ← ih]
    unfold twosTo
    rw [List.length_cons, List.range_succ_eq_map, List.flatMap_cons, List.flatMap_map, List.map_map]
    rfl
theorem combIx_nd : ∀ (r : Nat) (l : List Nat), l.Nodup → (combIx r l).Nodup
  | 0, l, _ => by simp [combIx]
  | r + 1, [], _ => by simp [combIx]
  | r + 1, a :: l, h => by
    rw [List.nodup_cons] at h
    rw [combIx, List.nodup_append]
    refine ⟨(combIx_nd r l h.2).map _ (fun x y q e => q (List.cons.inj e).2), combIx_nd (r + 1) l h.2, fun x hx y hy e => ?_⟩
    subst e
    obtain ⟨z, _, rfl⟩ := List.mem_map.mp hx
    exact h.1 (combIx_mem _ _ _ hy a List.mem_cons_self)
theorem comb2_of : ∀ (l : List Nat) (a b : Nat), a ∈ l → b ∈ l → a ≠ b → [a, b] ∈ combIx 2 l ∨ [b, a] ∈ combIx 2 l
  | c :: l, a, b, ha, hb, hab => by
    rw [combIx, comb1]
    simp only [List.mem_append, List.mem_map]
    rcases List.mem_cons.mp ha with h1 | ha2
    · rcases List.mem_cons.mp hb with h2 | hb2
      · exact absurd (h1.trans h2.symm) hab
      · rw [h1]; exact .inl (.inl ⟨[b], ⟨b, hb2, rfl⟩, rfl⟩)
    · rcases List.mem_cons.mp hb with h2 | hb2
      · rw [h2]; exact .inr (.inl ⟨[a], ⟨a, ha2, rfl⟩, rfl⟩)
      · rcases comb2_of l a b ha2 hb2 hab with h | h
        · exact .inl (.inr h)
        · exact .inr (.inr h)
/-! ### lots -/
def rowStep (acc : List (List Nat)) (c : Nat) : List (List Nat) := acc ++ acc.map (fun x => x ++ [c]) ++ [[c]]
def rowL (l : List Nat) : List (List Nat) := l.foldl rowStep []
theorem rowL_map (f : Nat → Nat) : ∀ (l : List Nat) (acc : List (List Nat)), (l.map f).foldl rowStep (acc.map (·.map f)) = (l.foldl rowStep acc).map (·.map f)
  | [], acc => rfl
  | c :: l, acc => by
    rw [List.map_cons, List.foldl_cons, List.foldl_cons, ← rowL_map f l]
    congr 1
    simp [rowStep, List.map_map]
theorem row_all : ((List.range 7).all fun n => (rowL (List.range n)).isPerm (lotsL (List.range n)) && decide ((rowL (List.range n)).length < 64)) = true := by decide +kernel
theorem row_lots {l : List Nat} (h : l.length ≤ 6) : (rowL l).Perm (lotsL l) := by
  have e1 : rowL l = (rowL (List.range l.length)).map (·.map fun i => l.getD i 0) := by
    have := rowL_map (fun i => l.getD i 0) (List.range l.length) []
    rw [range_map] at this
    exact this
  have e2 : lotsL l = (lotsL (List.range l.length)).map (·.map fun i => l.getD i 0) := by
    unfold lotsL
    rw [List.map_flatMap, List.length_range]
    congr 1
    funext k
    exact (comb_rows (k + 1) l).symm
  have q := List.all_eq_true.mp row_all l.length (List.mem_range.mpr (by omega))
  rw [Bool.and_eq_true, List.isPerm_iff] at q
  rw [e1, e2]
  exact q.1.map _
theorem rowStep_le (acc : List (List Nat)) (c : Nat) : acc.length ≤ (rowStep acc c).length := by
  unfold rowStep; rw [List.length_append, List.length_append]; omega
theorem foldl_mono : ∀ (l : List Nat) (acc : List (List Nat)), acc.length ≤ (l.foldl rowStep acc).length
  | [], _ => Nat.le_refl _
  | c :: l, acc => Nat.le_trans (rowStep_le acc c) (foldl_mono l _)
theorem row_take {l : List Nat} (h : l.length ≤ 6) (i : Nat) : (rowL (l.take i)).length < 64 := by
  have q : (rowL l).length < 64 := by rw [(row_lots h).length_eq]; exact lots_small h
  have : rowL l = (l.drop i).foldl rowStep (rowL (l.take i)) := by unfold rowL; rw [← List.foldl_append, List.take_append_drop]
  rw [this] at q
  exact Nat.lt_of_le_of_lt (foldl_mono _ _) q
theorem row_snoc {l : List Nat} {i c : Nat} (h : l[i]? = some c) : rowL (l.take (i + 1)) = rowStep (rowL (l.take i)) c := by
  rw [take_snoc h, rowL, List.foldl_append]; rfl
theorem row_len {n : Nat} : ∀ (l : List Nat) (acc : List (List Nat)), (∀ x ∈ acc, x.length ≤ n) → ∀ x ∈ l.foldl rowStep acc, x.length ≤ n + l.length
  | [], acc, h => h
  | c :: l, acc, h => by
    have := row_len (n := n + 1) l (rowStep acc c) (fun x hx => by
      unfold rowStep at hx
      simp only [List.mem_append, List.mem_map, List.mem_singleton] at hx
      rcases hx with (hx | ⟨y, hy, rfl⟩) | rfl
      · exact Nat.le_succ_of_le (h x hx)
      · rw [List.length_append, List.length_singleton]; exact Nat.succ_le_succ (h y hy)
      · simp)
    intro x hx
    have := this x hx
    rw [List.length_cons]; omega
theorem comb_sub : ∀ (r : Nat) (l x : List Nat), x ∈ combIx r l → x.Sublist l
  | 0, l, x, h => by
    have : x = [] := by simpa [combIx] using h
    rw [this]; exact List.nil_sublist l
  | r + 1, [], x, h => by simp [combIx] at h
  | r + 1, a :: l, x, h => by
    rw [combIx, List.mem_append] at h
    rcases h with h | h
    · obtain ⟨y, hy, rfl⟩ := List.mem_map.mp h
      exact (comb_sub r l y hy).cons₂ a
    · exact (comb_sub (r + 1) l x h).cons a
theorem filter_sub {v m : List Nat} (s : v.Sublist m) : m.Nodup → m.filter (fun c => decide (c ∈ v)) = v := by
  induction s with
  | slnil => intro _; rfl
  | @cons v m a s ih =>
    intro h
    rw [List.nodup_cons] at h
    have : a ∉ v := fun q => h.1 (s.subset q)
    rw [List.filter_cons, if_neg (by simpa using this)]
    exact ih h.2
  | @cons_cons v m a s ih =>
    intro h
    rw [List.nodup_cons] at h
    rw [List.filter_cons, if_pos (by simp)]
    congr 1
    rw [← ih h.2]
    refine List.filter_congr fun c hc => ?_
    have hne : c ≠ a := fun q => h.1 (q ▸ hc)
    have e := ih h.2
    rw [e]
    exact decide_eq_decide.mpr ⟨fun q => (List.mem_cons.mp q).resolve_left hne, fun q => List.mem_cons_of_mem _ q⟩
theorem lot_comb {r : Nat} {l x : List Nat} (hn : l.Nodup) (h : x ∈ combIx r l) : isLotM x l = true := by
  unfold isLotM
  exact decide_eq_true (filter_sub (comb_sub r l x h) hn).symm
theorem pair_comb {l x : List Nat} (hn : l.Nodup) (h : x ∈ combIx 2 l) : isPairM x l = true := by
  unfold isPairM
  rw [lot_comb hn h, combIx_len _ _ _ h]; rfl
theorem drop_nd {l : List Nat} (h : l.Nodup) : (l.drop 1).Nodup := (List.drop_sublist 1 l).nodup h
theorem lots_part {l x : List Nat} (hn : l.Nodup) (hl : l.length ≤ 7) (h : x ∈ srt (lotsL (l.drop 1))) : isPartingM x l = true ∧ x.length ≤ 7 := by
  have h := (srt_perm _).mem_iff.mp h
  unfold lotsL at h
  obtain ⟨k, hk, hx⟩ := List.mem_flatMap.mp h
  have hk := List.mem_range.mp hk
  rw [List.length_drop] at hk
  have e := combIx_len _ _ _ hx
  unfold isPartingM
  rw [lot_comb (drop_nd hn) hx, e]
  exact ⟨by simp, by omega⟩
theorem lots_some {l : List Nat} (h : 2 ≤ l.length) : 0 < (srt (lotsL (l.drop 1))).length := by
  rw [(srt_perm _).length_eq]
  match l, h with
  | a :: b :: r, _ =>
    have : [b] ∈ lotsL (b :: r) := List.mem_flatMap.mpr ⟨0, List.mem_range.mpr (by simp), by rw [comb1]; simp⟩
    exact List.length_pos_of_mem this
theorem lots_len {l : List Nat} (h : l.length ≤ 7) : (srt (lotsL (l.drop 1))).length < 64 := by
  rw [(srt_perm _).length_eq]
  exact lots_small (by rw [List.length_drop]; omega)
theorem lot_sub {v l : List Nat} (h : isLotM v l = true) : ∀ c ∈ v, c ∈ l := fun c hc => by
  unfold isLotM at h
  have h := of_decide_eq_true h
  rw [h] at hc
  exact (List.mem_filter.mp hc).1
theorem parting_sub {p l : List Nat} (h : isPartingM p l = true) : ∀ c ∈ p, c ∈ l := fun c hc => by
  unfold isPartingM at h
  rw [Bool.and_eq_true] at h
  exact List.mem_of_mem_drop (lot_sub h.1 c hc)
theorem letters_nd : lettersL.Nodup := letters_rise.imp fun h => Nat.ne_of_lt h
theorem lot_rise {l : List Nat} (h : isLotM l lettersL = true) : l.Pairwise (· < ·) := by
  unfold isLotM at h
  have h := of_decide_eq_true h
  rw [h]
  exact letters_rise.sublist List.filter_sublist
theorem lot_nd {l : List Nat} (h : isLotM l lettersL = true) : l.Nodup := (lot_rise h).imp fun h => Nat.ne_of_lt h
theorem letter_lot {l : List Nat} (h : l.Nodup) {c : Nat} (hc : c ∈ l) : isLotM [c] l = true := by
  unfold isLotM
  refine decide_eq_true (filter_sub (v := [c]) ?_ h).symm
  exact List.singleton_sublist.mpr hc
end Nd
set_option Elab.async false
set_option linter.all false
set_option maxRecDepth 100000
set_option maxHeartbeats 4000000
/-! what the program's defs are to do, told of data; rules of thumb -/
namespace Pd
open PySem PySem.Spec PyProof.Rows L2 Nf DL Nd
/-! ### rules of thumb -/
theorem and_ite {a b : Bool} {Q : D → Prop} (k : Q (.bl (a && b))) : if a = true then Q (.bl b) else Q (.bl false) := by
  cases a
  · simpa using k
  · simpa using k
theorem and_iteL {a b : Bool} {Q : D → Prop} {X : Prop} (k : Q (.bl (a && b))) (h : Q (.bl b) → X) : if a = true then X else Q (.bl false) := by
  cases a
  · simpa using k
  · simpa using h (by simpa using k)
theorem intEq (n m : Nat) : decide ((n : Int) = (m : Int)) = decide (n = m) := by
  by_cases h : n = m
  · subst h; simp
  · have : ¬ (n : Int) = m := by omega
    simp [h, this]
theorem intLt (n m : Nat) : decide ((n : Int) < (m : Int)) = decide (n < m) := by
  by_cases h : n < m
  · have : (n : Int) < m := by omega
    simp [h, this]
  · have : ¬ (n : Int) < m := by omega
    simp [h, this]
theorem not_ite {a : Bool} {P : Prop} (h : a = true) (k : P) : if (!a) = true then False else P := by rw [h]; exact k
theorem fbne (p : Nat → Bool) (l : List Nat) : l.filter (fun c => false != p c) = l.filter p := by simp
theorem tbne (p : Nat → Bool) (l : List Nat) : l.filter (fun c => true != p c) = l.filter (fun c => !p c) := by simp
/-- "".join of signs -/
theorem join_sg {st : Store} {l : List Nat} {Q : QD} (hl : l.length ≤ 1000) (q : Q (.str l) st) : joinK (("" : Str).cps.toList) st (.lst (l.map fun c => D.str [c])) Q := by
  refine ⟨l.map fun c => [c], .inl ?_, ?_, ?_⟩
  · rw [List.map_map]; rfl
  · rw [List.map_map]
    have e : (l.map (List.length ∘ fun c => [c])).sum = l.length := by
      clear q
      induction l with
      | nil => rfl
      | cons a l ih => rw [List.map_cons, List.sum_cons, ih (by simp at hl; omega)]; simp; omega
    rw [e]
    show l.length + (l.map fun c => [c]).length * 0 ≤ 1000000
    omega
  · show Q (.str (joinM [] _)) st
    rw [joinM_signs]; exact q
theorem join_tup {st : Store} {l : List Nat} {Q : QD} (hl : l.length ≤ 1000) (q : Q (.str l) st) : joinK (("" : Str).cps.toList) st (.tup (l.map fun c => D.str [c])) Q := by
  obtain ⟨ls, h1, h2, h3⟩ := join_sg (st := st) (Q := Q) hl q
  refine ⟨ls, .inr ?_, h2, h3⟩
  rcases h1 with h1 | h1
  · have h1 : D.lst (l.map fun c => D.str [c]) = D.lst (ls.map D.str) := h1
    have h1 := D.lst.inj h1
    show D.tup (l.map fun c => D.str [c]) = _
    rw [h1]
  · have h1 : D.lst (l.map fun c => D.str [c]) = D.tup (ls.map D.str) := h1
    cases h1
/-- {k a: d a for a in l}, no draws -/
theorem dcD_m {α : Type} {e : α → D} {l : List α} {kf : α → DK} {vf : α → D} {g : MG} {fk fv : ME} {G : Store → Prop} {ρ : DL.Env} {st : Store}
    (h : ∀ a ∈ l, ∀ (KK : D → D → Store → Prop), KK (keyOf (kf a)) (vf a) st → g (e a) ρ st fun ρ1 st1 => fk ρ1 st1 fun kd st2 => fv ρ1 st2 fun d st3 => KK kd d st3) (hG : G st) :
    ∀ {acc : List (DK × D)} {Q : List (DK × D) → Store → Prop}, Q (l.foldl (fun acc a => putD (kf a) (vf a) acc) acc) st → dcD g mYes fk fv G ρ (l.map e) st acc Q := by
  induction l with
  | nil => intro acc Q hQ; exact ⟨hG, hQ⟩
  | cons a l ih =>
    intro acc Q hQ
    have ih' := @ih (fun b hb => h b (List.mem_cons_of_mem _ hb)) (putD (kf a) (vf a) acc) Q hQ
    refine ⟨hG, ?_⟩
    have := h a List.mem_cons_self (fun kd d st4 => keyD kd fun k => dcD g mYes fk fv G ρ (l.map e) st4 (putD k d acc) Q) (by
      cases hk : kf a with
      | inl i => rw [hk] at ih'; exact ih'
      | inr s => rw [hk] at ih'; exact ih')
    simpa [mYes] using this
theorem cut_one {α : Type} (l : List α) : DL.cutD l (some 1) none = l.drop 1 := by
  unfold DL.cutD
  have e : HT.sIx l.length 0 (some 1) = min 1 l.length := by simp [HT.sIx]
  have e2 : HT.sIx l.length l.length none = l.length := rfl
  rw [e, e2]
  by_cases h : 1 ≤ l.length
  · rw [Nat.min_eq_left h, List.take_of_length_le (by rw [List.length_drop]; omega)]
  · have : l = [] := List.eq_nil_of_length_eq_zero (by omega)
    subst this; rfl
theorem comb_le {r : Nat} {l : List Nat} (hl : l.length ≤ 7) (hr : r ≤ 8 := by decide) : (combA r l).length ≤ 35 := by
  rw [← combIx_A]; exact comb7 hl hr
/-! ### tables -/
theorem oSet_dic {st : Store} {n : Nat} {kvs : List (DK × D)} {k : DK} {b d : D} {Q : Store → Prop} (hb : b = keyOf k) (h : st[n]? = some (.dic kvs)) (nd : NdK kvs) (len : kvs.length < 1000000) (q : Q (st.set n (.dic (putD k d kvs)))) : oSet st (.cel n) b d Q := by
  subst hb
  unfold oSet
  simp only [h]
  cases k with
  | inl i => exact ⟨⟨nd, len⟩, q⟩
  | inr l => exact ⟨⟨nd, len⟩, q⟩
theorem oSet_lst {st : Store} {n : Nat} {xs : List D} {i : Int} {j : Nat} {d : D} {Q : Store → Prop} (h : st[n]? = some (.lst xs)) (hj : ixN xs.length i = some j) (q : Q (st.set n (.lst (xs.set j d)))) : oSet st (.cel n) (.int i) d Q := by
  unfold oSet
  simp only [h]
  show match ixN xs.length i with | some j => _ | none => False
  rw [hj]
  exact q
def rowsD (rr : List (List Nat × Int)) : List D := rr.map fun r => D.tup [.str r.1, .int r.2]
def selfK (l : List Nat) : List (DK × D) := l.foldl (fun acc c => putD (.inr [c, c]) (.int 0) acc) []
def bothStep (acc : List (DK × D)) (r : List Nat × Int) : List (DK × D) := putD (.inr r.1.reverse) (.int r.2) (putD (.inr r.1) (.int r.2) acc)
def bothK (l : List Nat) (rr : List (List Nat × Int)) : List (DK × D) := rr.foldl bothStep (selfK l)
theorem selfK_nd : ∀ (l : List Nat) (acc : List (DK × D)), NdK acc → NdK (l.foldl (fun acc c => putD (.inr [c, c]) (.int 0) acc) acc)
  | [], acc, h => h
  | c :: l, acc, h => selfK_nd l _ (putD_nd h)
theorem bothS_nd : ∀ (rr : List (List Nat × Int)) (acc : List (DK × D)), NdK acc → NdK (rr.foldl bothStep acc)
  | [], acc, h => h
  | c :: l, acc, h => bothS_nd l _ (putD_nd (putD_nd h))
theorem bothK_nd (l : List Nat) (rr : List (List Nat × Int)) : NdK (bothK l rr) := bothS_nd rr _ (selfK_nd l [] List.nodup_nil)
theorem selfK_len : ∀ (l : List Nat) (acc : List (DK × D)), (l.foldl (fun acc c => putD (.inr [c, c]) (.int 0) acc) acc).length ≤ acc.length + l.length
  | [], acc => by simp
  | c :: l, acc => by
    have h1 := selfK_len l (putD (.inr [c, c]) (.int 0) acc)
    have h2 := putD_len (.inr [c, c]) (.int 0) acc
    rw [List.foldl_cons, List.length_cons]; omega
theorem bothS_len : ∀ (rr : List (List Nat × Int)) (acc : List (DK × D)), (rr.foldl bothStep acc).length ≤ acc.length + 2 * rr.length
  | [], acc => by simp
  | r :: rr, acc => by
    have h1 := bothS_len rr (bothStep acc r)
    have h2 := putD_len (.inr r.1) (.int r.2) acc
    have h3 := putD_len (.inr r.1.reverse) (.int r.2) (putD (.inr r.1) (.int r.2) acc)
    rw [List.foldl_cons, List.length_cons]
    have : (bothStep acc r).length ≤ acc.length + 2 := by unfold bothStep; omega
    omega
theorem plK_put {k : DK} {d : D} (h : pl d = true) : ∀ {kvs : List (DK × D)}, plK kvs = true → plK (putD k d kvs) = true
  | [], _ => by simp [putD, plK, plP, h]
  | (j, e) :: r, q => by
    rw [plK, Bool.and_eq_true] at q
    unfold putD
    split
    · rw [plK, q.2]; simp [plP, h]
    · rw [plK, q.1, plK_put h q.2]; rfl
theorem selfK_pl : ∀ (l : List Nat) (acc : List (DK × D)), plK acc = true → plK (l.foldl (fun acc c => putD (.inr [c, c]) (.int 0) acc) acc) = true
  | [], acc, h => h
  | c :: l, acc, h => selfK_pl l _ (plK_put rfl h)
theorem bothS_pl : ∀ (rr : List (List Nat × Int)) (acc : List (DK × D)), plK acc = true → plK (rr.foldl bothStep acc) = true
  | [], acc, h => h
  | c :: l, acc, h => bothS_pl l _ (plK_put rfl (plK_put rfl h))
theorem bothK_pl (l : List Nat) (rr : List (List Nat × Int)) : plK (bothK l rr) = true := bothS_pl rr _ (selfK_pl l [] rfl)
theorem selfK_look (c : Nat) : ∀ (l : List Nat) (acc : List (DK × D)), (c ∈ l ∨ lookD (.inr [c, c]) acc = some (.int 0)) → lookD (.inr [c, c]) (l.foldl (fun acc c => putD (.inr [c, c]) (.int 0) acc) acc) = some (.int 0)
  | [], acc, h => h.resolve_left (fun z => nomatch z)
  | a :: l, acc, h => by
    refine selfK_look c l _ ?_
    rw [lookD_put]
    by_cases e : c = a
    · subst e; rw [if_pos rfl]; exact .inr rfl
    · have : ¬ (Sum.inr [c, c] : DK) = .inr [a, a] := fun z => e (by injection z with z; injection z)
      rw [if_neg this]
      rcases h with h | h
      · exact .inl ((List.mem_cons.mp h).resolve_left e)
      · exact .inr h
/-- what a key has behind rows: the last row of it, either way round -/
theorem bothS_look (k : List Nat) (v : Int) : ∀ (rr : List (List Nat × Int)) (acc : List (DK × D)), (∀ r ∈ rr, r.1 = k ∨ r.1.reverse = k → r.2 = v) → ((∃ r ∈ rr, r.1 = k ∨ r.1.reverse = k) ∨ lookD (.inr k) acc = some (.int v)) → lookD (.inr k) (rr.foldl bothStep acc) = some (.int v)
  | [], acc, _, h => h.resolve_left (fun ⟨_, z, _⟩ => nomatch z)
  | r :: rr, acc, hv, h => by
    refine bothS_look k v rr _ (fun q hq => hv q (List.mem_cons_of_mem _ hq)) ?_
    unfold bothStep
    rw [lookD_put, lookD_put]
    by_cases e2 : k = r.1.reverse
    · rw [if_pos (by rw [e2]), hv r List.mem_cons_self (.inr e2.symm)]; exact .inr rfl
    · have n2 : ¬ (Sum.inr k : DK) = .inr r.1.reverse := fun z => e2 (by injection z)
      rw [if_neg n2]
      by_cases e1 : k = r.1
      · rw [if_pos (by rw [e1]), hv r List.mem_cons_self (.inl e1.symm)]; exact .inr rfl
      · have n1 : ¬ (Sum.inr k : DK) = .inr r.1 := fun z => e1 (by injection z)
        rw [if_neg n1]
        rcases h with ⟨q, hq, hk⟩ | h
        · rcases List.mem_cons.mp hq with z | z
          · subst z
            rcases hk with hk | hk
            · exact absurd hk.symm e1
            · exact absurd hk.symm e2
          · exact .inl ⟨q, z, hk⟩
        · exact .inr h
/-- the distances of pairs -/
def farR (far : Nat → Nat → Int) (r : List Nat) : Int := far (r.getD 0 0) (r.getD 1 0)
def rowsF (l : List Nat) (far : Nat → Nat → Int) : List (List Nat × Int) := (combA 2 l).map fun r => (r, farR far r)
/-- the same either way, 0 for the same thing, from 0 to 1000000 -/
structure FarOk (l : List Nat) (far : Nat → Nat → Int) : Prop where
  sym : ∀ a ∈ l, ∀ b ∈ l, far a b = far b a
  self : ∀ a ∈ l, far a a = 0
  low : ∀ a ∈ l, ∀ b ∈ l, 0 ≤ far a b
  top : ∀ a ∈ l, ∀ b ∈ l, far a b ≤ 1000000
theorem comb2_pair {l : List Nat} {r : List Nat} (h : r ∈ combA 2 l) : ∃ a b, r = [a, b] ∧ a ∈ l ∧ b ∈ l := by
  obtain ⟨h1, h2⟩ := combA_mem 2 l r h
  match r, h1 with
  | [a, b], _ => exact ⟨a, b, rfl, h2 a (by simp), h2 b (by simp)⟩
theorem comb2_ne {l : List Nat} (hn : l.Nodup) {a b : Nat} (h : [a, b] ∈ combA 2 l) : a ≠ b := by
  have h := comb_sub 2 l [a, b] (by rw [combIx_A]; exact h)
  have := h.nodup hn
  simp at this
  exact this
theorem look_both {l : List Nat} {far : Nat → Nat → Int} (hn : l.Nodup) (F : FarOk l far) {a b : Nat} (ha : a ∈ l) (hb : b ∈ l) : lookD (.inr [a, b]) (bothK l (rowsF l far)) = some (.int (far a b)) := by
  refine bothS_look [a, b] (far a b) (rowsF l far) (selfK l) (fun r hr hk => ?_) ?_
  · obtain ⟨p, hp, rfl⟩ := List.mem_map.mp hr
    obtain ⟨x, y, rfl, hx, hy⟩ := comb2_pair hp
    show far x y = far a b
    rcases hk with hk | hk
    · have hk : [x, y] = [a, b] := hk
      cases hk; rfl
    · have hk : [y, x] = [a, b] := hk
      cases hk; exact F.sym _ hx _ hy
  · by_cases e : a = b
    · subst e
      refine .inr ?_
      rw [F.self a ha]
      exact selfK_look a l [] (.inl ha)
    · left
      rcases comb2_of l a b ha hb e with h | h
      · rw [combIx_A] at h
        exact ⟨([a, b], far a b), List.mem_map.mpr ⟨[a, b], h, rfl⟩, .inl rfl⟩
      · rw [combIx_A] at h
        exact ⟨([b, a], far b a), List.mem_map.mpr ⟨[b, a], h, rfl⟩, .inr rfl⟩
/-- the program's table as data -/
def tabD (C : Addr) (l : List Nat) (far : Nat → Nat → Int) : D := .ins C [("_things", .str l), ("_distances", .tup (rowsD (rowsF l far))), ("_lengths", .dic (bothK l (rowsF l far)))]
theorem rowsD_pl (rr : List (List Nat × Int)) : plL (rowsD rr) = true := plL_map _ (fun _ => rfl) rr
theorem tabD_pl (C : Addr) (l : List Nat) (far : Nat → Nat → Int) : pl (tabD C l far) = true := by
  unfold tabD
  simp only [pl, plF, plG, rowsD_pl, bothK_pl]
  rfl
theorem cSorted_strs {st : Store} {ls : List (List Nat)} {Q : QD} (hl : ls.length < 64) (q : Q (.lst ((srt ls).map D.str)) st) : cSorted st [.lst (ls.map D.str)] Q := .inl ⟨ls, rfl, hl, q⟩
theorem cSum_ints {st : Store} {ns : List Int} {Q : QD} (q : Q (.int ns.sum) st) : cSum st [.lst (ns.map D.int)] Q := ⟨ns, rfl, q⟩
theorem cMin_ints {st : Store} {n : Int} {ns : List Int} {Q : QD} (q : Q (.int (ns.foldl mn n)) st) : cMaxMin mn st [.lst ((n :: ns).map D.int)] Q := ⟨n, ns, rfl, q⟩
theorem cMax_ints {st : Store} {n : Int} {ns : List Int} {Q : QD} (q : Q (.int (ns.foldl mx n)) st) : cMaxMin mx st [.lst ((n :: ns).map D.int)] Q := ⟨n, ns, rfl, q⟩
theorem oIx_str {st : Store} {l : List Nat} {v : Int} {i c : Nat} {Q : QD} (hv : v = i) (hc : l[i]? = some c) (hl : l.length ≤ 1000000) (q : Q (.str [c]) st) : oIx st (.str l) (.int v) Q := by
  subst hv
  show match atI l (i : Int) with | some c => l.length ≤ 1000000 ∧ Q (.str [c]) st | none => False
  rw [atI_nat hc]; exact ⟨hl, q⟩
theorem oIx_seq {st : Store} {d x : D} {xs : List D} {v : Int} {i : Nat} {Q : QD} (hd : dr st d = .lst xs ∨ dr st d = .tup xs) (hv : v = i) (hc : xs[i]? = some x) (q : Q x st) : oIx st d (.int v) Q := by
  subst hv
  unfold oIx
  rcases hd with hd | hd <;> rw [hd] <;> simp only [isI] <;> rw [atI_nat hc] <;> exact q
theorem oIx_dic {st : Store} {d b x : D} {kvs : List (DK × D)} {k : DK} {Q : QD} (hd : dr st d = .dic kvs) (hb : b = keyOf k) (hk : lookD k kvs = some x) (q : Q x st) : oIx st d b Q := by
  subst hb
  unfold oIx
  rw [hd]
  cases k with
  | inl i => simp only [keyD, keyOf]; rw [hk]; exact q
  | inr l => simp only [keyD, keyOf]; rw [hk]; exact q
theorem cut_fromN {α : Type} (l : List α) (i : Nat) : DL.cutD l (some (i : Int)) none = l.drop i := by
  unfold DL.cutD
  rw [HT.sIx_nat, HT.sIx_none]
  by_cases h : i ≤ l.length
  · rw [Nat.min_eq_left h, List.take_of_length_le (by rw [List.length_drop]; omega)]
  · rw [Nat.min_eq_right (by omega), List.drop_of_length_le (Nat.le_refl _), List.drop_of_length_le (by omega)]; simp
theorem cut_to {α : Type} (l : List α) (i : Nat) : DL.cutD l none (some (i : Int)) = l.take i := by
  unfold DL.cutD
  rw [HT.sIx_nat, HT.sIx_none, List.drop_zero, Nat.sub_zero]
  by_cases h : i ≤ l.length
  · rw [Nat.min_eq_left h]
  · rw [Nat.min_eq_right (by omega), List.take_of_length_le (Nat.le_refl _), List.take_of_length_le (by omega)]
theorem slD_str {st : Store} {l : List Nat} {lo hi : Option Int} {Q : QD} (hl : l.length ≤ 1000000) (q : Q (.str (DL.cutD l lo hi)) st) : slD st (.str l) lo hi Q := ⟨hl, q⟩
/-- enumerate -/
theorem enumD_zip : ∀ (xs : List D) (k : Nat), (enumD k xs).map D.tup = (xs.zipIdx k).map fun p => D.tup [.int (p.2 : Nat), p.1]
  | [], k => rfl
  | x :: xs, k => by rw [enumD, List.map_cons, List.zipIdx_cons, List.map_cons, enumD_zip xs (k + 1)]
theorem zip_get {α : Type} {xs : List α} {i : Nat} {p : α × Nat} (h : xs.zipIdx[i]? = some p) : xs[i]? = some p.1 ∧ p.2 = i := by
  rw [List.getElem?_zipIdx] at h
  cases q : xs[i]? with
  | none => rw [q] at h; cases h
  | some a => rw [q] at h; cases h; exact ⟨rfl, by simp⟩
theorem exit_set0 {st0 : Store} {u : Nat} {cc : Cell} {Qd : QD} {d : D} (h : pl d = true) (hc : CloC st0.length cc) (q : Qd d (st0.set u cc)) : exitF st0 Qd d (st0.set u cc) := by
  have := exit_set (st0 := st0) [] (u := u) (cc := cc) (Qd := Qd) h hc q
  rwa [List.append_nil] at this
theorem set_at {st : Store} {n : Nat} {c d : Cell} (h : st[n]? = some c) : (st.set n d)[n]? = some d := List.getElem?_set_self (List.getElem?_eq_some_iff.mp h).1
theorem putFD_len (f : Str) (d : D) : ∀ fs : List (Str × D), (putFD f d fs).length ≤ fs.length + 1
  | [] => by simp [putFD]
  | (g, x) :: r => by
    unfold putFD
    split
    · simp
    · simp only [List.length_cons]
      have := putFD_len f d r
      omega
/-- o.f = y, o a cell -/
theorem fldS_of {C : Addr} {f : Str} {ρ : DL.Env} {st : Store} {De : DEnds} {n : Nat} {y : D} {fs : List (Str × D)} (h : st[n]? = some (.ins C fs)) (hl : fs.length < 1000) (q : De.nx ρ (st.set n (.ins C (putFD f y fs)))) : fldS C f ρ st (.cel n) y De := by
  unfold fldS
  simp only [h]
  exact ⟨⟨trivial, hl⟩, q⟩
/-! ### what the defs are to do -/
def S_is_integer : MC := fun st ds Q => ∃ i : Int, ds = [.int i] ∧ Q (.bl true) st
def S_is_integer_within : MC := fun st ds Q => ∃ v a b : Int, ds = [.int v, .int a, .int b] ∧ Q (.bl (decide (a ≤ v) && decide (v ≤ b))) st
def S_is_lot : MC := fun st ds Q => ∃ v l : List Nat, ds = [.str v, .str l] ∧ l.length ≤ 1000 ∧ Q (.bl (isLotM v l)) st
def S_is_letter : MC := fun st ds Q => ∃ v l : List Nat, ds = [.str v, .str l] ∧ l.length ≤ 1000 ∧ v.length ≤ 1000 ∧ Q (.bl (isLotM v l && decide (v.length = 1))) st
def S_is_pair : MC := fun st ds Q => ∃ v l : List Nat, ds = [.str v, .str l] ∧ l.length ≤ 1000 ∧ v.length ≤ 1000 ∧ Q (.bl (isPairM v l)) st
def S_is_parting : MC := fun st ds Q => ∃ v l : List Nat, ds = [.str v, .str l] ∧ l.length ≤ 1000 ∧ v.length ≤ 1000 ∧ Q (.bl (isPartingM v l)) st
def S_check_things : MC := fun st ds Q => ∃ l : List Nat, ds = [.str l] ∧ isLotM l lettersL = true ∧ 2 ≤ l.length ∧ l.length ≤ 7 ∧ Q .non st
def S_check_thing : MC := fun st ds Q => ∃ (l : List Nat) (c : Nat), ds = [.str l, .str [c]] ∧ l.length ≤ 1000 ∧ l.Nodup ∧ c ∈ l ∧ Q .non st
def S_check_pair : MC := fun st ds Q => ∃ l v : List Nat, ds = [.str l, .str v] ∧ l.length ≤ 1000 ∧ v.length ≤ 1000 ∧ isPairM v l = true ∧ Q .non st
def S_check_parting : MC := fun st ds Q => ∃ l v : List Nat, ds = [.str l, .str v] ∧ l.length ≤ 1000 ∧ v.length ≤ 1000 ∧ isPartingM v l = true ∧ Q .non st
def S_lots_of : MC := fun st ds Q => ∃ l : List Nat, ds = [.str l, .int 1] ∧ l.length ≤ 6 ∧ Q (.lst ((srt (lotsL l)).map D.str)) st
def S_pairs_of : MC := fun st ds Q => ∃ l : List Nat, ds = [.str l] ∧ l.length ≤ 7 ∧ Q (.lst ((combA 2 l).map D.str)) st
def S_other_lot : MC := fun st ds Q => ∃ l p : List Nat, ds = [.str l, .str p] ∧ l.length ≤ 1000 ∧ Q (.str (otherM l p)) st
def twosL : List Nat → List (Nat × Nat)
  | [] => []
  | a :: l => (a :: l).map (fun b => (a, b)) ++ twosL l
theorem twos_flat : ∀ l : List Nat, ((List.range l.length).map fun i => (l.drop i).map fun b => D.tup [.str [l.getD i 0], .str [b]]).flatten = (twosL l).map fun p => D.tup [.str [p.1], .str [p.2]]
  | [] => rfl
  | a :: l => by
    rw [List.length_cons, List.range_succ_eq_map, List.map_cons, List.flatten_cons, List.map_map]
    have ih := twos_flat l
    rw [twosL, List.map_append, ← ih, List.map_map]
    rfl
def S_twos_of : MC := fun st ds Q => ∃ l : List Nat, ds = [.str l] ∧ l.length ≤ 7 ∧ Q (.lst ((twosL l).map fun p => D.tup [.str [p.1], .str [p.2]])) st
def S_both_ways : MC := fun st ds Q => ∃ (l : List Nat) (rr : List (List Nat × Int)), ds = [.str l, .tup (rowsD rr)] ∧ l.length ≤ 1000 ∧ rr.length ≤ 1000 ∧ (∀ r ∈ rr, r.1.length ≤ 1000) ∧ Q (.dic (bothK l rr)) st
def S_is_distance : MC := fun st ds Q => ∃ v : Int, ds = [.int v] ∧ 0 ≤ v ∧ v ≤ 1000000 ∧ Q (.bl true) st
def S_is_entry : MC := fun st ds Q => ∃ (p : List Nat) (v : Int), ds = [.tup [.str p, .int v], .str p] ∧ Q (.bl true) st
def S_check_distances (mg : Str → Option Value) : MC := fun st ds Q => ∃ (l : List Nat) (far : Nat → Nat → Int), ds = [.str l, .tup (rowsD (rowsF l far)), fv mg "is_distance"] ∧ l.length ≤ 7 ∧ (∀ a ∈ l, ∀ b ∈ l, 0 ≤ far a b ∧ far a b ≤ 1000000) ∧ Q .non st
/-- Table.__init__: the cell n becomes the table -/
def S_Table (C : Addr) : MC := fun st ds Q => ∃ (n : Nat) (l : List Nat) (far : Nat → Nat → Int), ds = [.cel n, .str l, .tup (rowsD (rowsF l far))] ∧ st[n]? = some (.ins C []) ∧ isLotM l lettersL = true ∧ 2 ≤ l.length ∧ l.length ≤ 7 ∧ (∀ a ∈ l, ∀ b ∈ l, 0 ≤ far a b ∧ far a b ≤ 1000000) ∧
  Q .non (st.set n (.ins C [("_things", .str l), ("_distances", .tup (rowsD (rowsF l far))), ("_lengths", .dic (bothK l (rowsF l far)))]))
def S_check_table (C : Addr) : MC := fun st ds Q => ∃ d fs, ds = [d] ∧ dr st d = .ins C fs ∧ Q .non st
/-- d is a table of l, far, perhaps a cell -/
structure TabOk (C : Addr) (st : Store) (d : D) (l : List Nat) (far : Nat → Nat → Int) : Prop where
  dr : dr st d = tabD C l far
  lot : isLotM l lettersL = true
  two : 2 ≤ l.length
  sev : l.length ≤ 7
  far : FarOk l far
def S_far (C : Addr) : MC := fun st ds Q => ∃ (d : D) (l : List Nat) (far : Nat → Nat → Int) (a b : Nat), ds = [d, .str [a], .str [b]] ∧ TabOk C st d l far ∧ a ∈ l ∧ b ∈ l ∧ Q (.int (far a b)) st
def S_partings (C : Addr) : MC := fun st ds Q => ∃ (d : D) (l : List Nat) (far : Nat → Nat → Int), ds = [d] ∧ TabOk C st d l far ∧ Q (.tup ((srt (lotsL (l.drop 1))).map D.str)) st
/-! ### rooms -/
def roomM (far : Nat → Nat → Int) (a b c d : Nat) : Int := mx (mx (far a b + far c d) (far a c + far b d)) (far a d + far b c) - (far a b + far c d)
def S_room_of (C : Addr) : MC := fun st ds Q => ∃ (t : D) (l : List Nat) (far : Nat → Nat → Int) (a b c d : Nat), ds = [t, .tup [.str [a], .str [b]], .tup [.str [c], .str [d]]] ∧ TabOk C st t l far ∧ a ∈ l ∧ b ∈ l ∧ c ∈ l ∧ d ∈ l ∧ Q (.int (roomM far a b c d)) st
def S_room (C : Addr) : MC := fun st ds Q => ∃ (t : D) (l : List Nat) (far : Nat → Nat → Int) (a b c d : Nat), ds = [t, .str [a], .str [b], .str [c], .str [d]] ∧ TabOk C st t l far ∧ a ∈ l ∧ b ∈ l ∧ c ∈ l ∧ d ∈ l ∧ Q (.int (roomM far a b c d)) st
def minL : List Int → Int
  | [] => 0
  | n :: ns => ns.foldl mn n
theorem cMin_all {st : Store} {ns : List Int} {Q : QD} (h : ns ≠ []) (q : Q (.int (minL ns)) st) : cMaxMin mn st [.lst (ns.map D.int)] Q := by
  cases ns with
  | nil => exact absurd rfl h
  | cons n ns => exact cMin_ints q
def roomsL (l : List Nat) (far : Nat → Nat → Int) (p : List Nat) : List Int := ((twosL (otherM l p)).map fun t => (twosL p).map fun o => roomM far t.1 t.2 o.1 o.2).flatten
def strM (l : List Nat) (far : Nat → Nat → Int) (p : List Nat) : Int := minL (roomsL l far p)
def S_strength (C : Addr) : MC := fun st ds Q => ∃ (t : D) (l : List Nat) (far : Nat → Nat → Int) (p : List Nat), ds = [t, .str p] ∧ TabOk C st t l far ∧ isPartingM p l = true ∧ Q (.int (strM l far p)) st
def clearL (l : List Nat) (far : Nat → Nat → Int) : List (List Nat × Int) := ((srt (lotsL (l.drop 1))).map fun p => (p, strM l far p)).filter fun r => decide (0 < r.2)
def S_clear (C : Addr) : MC := fun st ds Q => ∃ (t : D) (l : List Nat) (far : Nat → Nat → Int), ds = [t] ∧ TabOk C st t l far ∧ Q (.tup (rowsD (clearL l far))) st
def S_shape (C : Addr) : MC := fun st ds Q => ∃ (t : D) (l : List Nat) (far : Nat → Nat → Int), ds = [t] ∧ TabOk C st t l far ∧ Q (.tup ((clearL l far).map fun r => .str r.1)) st
theorem far_step {C : Addr} {st : Store} {t : D} {l : List Nat} {far : Nat → Nat → Int} {a b : Nat} {Q : QD} (hT : TabOk C st t l far) (ha : a ∈ l) (hb : b ∈ l) (q : Q (.int (far a b)) st) : isO st C t fun fs => lookF "far" fs = none ∧ S_far C st [t, .str [a], .str [b]] Q :=
  isO_of hT.dr ⟨rfl, t, l, far, a, b, rfl, hT, ha, hb, q⟩
theorem forD_rel0 {α : Type} {e : α → D} {g : MG} {m : MS} {G : Store → Prop} {De : DEnds} (R : Nat → DL.Env → Store → Prop) {l : List α} {ρ : DL.Env} {st : Store} (h0 : R 0 ρ st)
    (hs : ∀ (j : Nat) a ρ' st', l[j]? = some a → R j ρ' st' → G st' ∧ ∀ (N : QE), (∀ ρ2 st2, R (j + 1) ρ2 st2 → N ρ2 st2) → g (e a) ρ' st' fun ρ1 st1 => m ρ1 st1 { nx := N, rt := De.rt, bk := De.nx, ct := N })
    (hd : ∀ ρ' st', R l.length ρ' st' → G st' ∧ De.nx ρ' st') : forD g m G (l.map e) ρ st De :=
  forD_rel (i := 0) R h0 (fun j a ρ' st' hj hr => by
    rw [Nat.zero_add] at hr ⊢
    exact hs j a ρ' st' hj hr) fun ρ' st' hr => by
    rw [Nat.zero_add] at hr
    exact hd ρ' st' hr
theorem lcD_rel0 {α : Type} {e : α → D} {g : MG} {t : MT} {m : ME} {G : Store → Prop} {ρ : DL.Env} (R : Nat → List D → Store → Prop) {l : List α} {st : Store} {Q : List D → Store → Prop} (h0 : R 0 [] st)
    (hs : ∀ (j : Nat) a ys st', l[j]? = some a → R j ys st' → G st' ∧ ∀ (K1 : QD) (K0 : Store → Prop), (∀ y st2, R (j + 1) (ys ++ [y]) st2 → K1 y st2) → (∀ st2, R (j + 1) ys st2 → K0 st2) → g (e a) ρ st' fun ρ1 st1 => t ρ1 st1 fun b st2 => if b = true then m ρ1 st2 K1 else K0 st2)
    (hd : ∀ ys st', R l.length ys st' → G st' ∧ Q ys st') : lcD g t m G ρ (l.map e) st Q :=
  lcD_rel (i := 0) (pre := []) R h0 (fun j a ys st' hj hr => by
    rw [Nat.zero_add] at hr ⊢
    exact hs j a ys st' hj hr) fun ys st' hr => by
    rw [Nat.zero_add] at hr
    exact hd ys st' hr
theorem rng_get {n j i : Nat} (h : (List.range n)[j]? = some i) : i = j ∧ j < n := by
  obtain ⟨h1, h2⟩ := List.getElem?_eq_some_iff.mp h
  rw [List.getElem_range] at h2
  exact ⟨h2.symm, by simpa using h1⟩
theorem mn_le (i j : Int) : mn i j ≤ i ∧ mn i j ≤ j ∧ (mn i j = i ∨ mn i j = j) := by unfold mn; split <;> omega
theorem mx_ge (i j : Int) : i ≤ mx i j ∧ j ≤ mx i j ∧ (mx i j = i ∨ mx i j = j) := by unfold mx; split <;> omega
section
variable {st : Store} {i j : Int} {l m : List Nat} {xs ys : List D} {Q : QD} {b : Bool}
theorem oAdd_ii : oAdd st (.int i) (.int j) Q = Q (.int (i + j)) st := rfl
theorem oAdd_ss : oAdd st (.str l) (.str m) Q = (l.length + m.length ≤ 1000000 ∧ Q (.str (l ++ m)) st) := rfl
theorem oAdd_tt : oAdd st (.tup xs) (.tup ys) Q = (xs.length + ys.length ≤ 1000000 ∧ Q (.tup (xs ++ ys)) st) := rfl
theorem oAdd_ll : oAdd st (.lst xs) (.lst ys) Q = (xs.length + ys.length ≤ 1000000 ∧ Q (.lst (xs ++ ys)) st) := rfl
theorem oSub_ii : oSub st (.int i) (.int j) Q = Q (.int (i - j)) st := rfl
theorem oMul_ii : oMul st (.int i) (.int j) Q = ((CMul i j ∨ CMulW i j) ∧ Q (.int (i * j)) st) := rfl
theorem oDiv_ii : oDiv st (.int i) (.int j) Q = (CDivW i j ∧ Q (.int (i / j)) st) := rfl
theorem oMod_ii : oMod st (.int i) (.int j) Q = (0 < j ∧ Q (.int (i % j)) st) := rfl
theorem oPow_ii : oPow st (.int i) (.int j) Q = (CPow i j ∧ Q (.int (i ^ j.toNat)) st) := rfl
theorem oNeg_i : oNeg st (.int i) Q = Q (.int (-i)) st := rfl
theorem oLt_ii : oLt st (.int i) (.int j) Q = Q (.bl (decide (i < j))) st := rfl
theorem oLe_ii : oLe st (.int i) (.int j) Q = Q (.bl (decide (i ≤ j))) st := rfl
theorem oGt_ii : oGt st (.int i) (.int j) Q = Q (.bl (decide (j < i))) st := rfl
theorem oGe_ii : oGe st (.int i) (.int j) Q = Q (.bl (decide (j ≤ i))) st := rfl
theorem oEq_ii : oEq st (.int i) (.int j) Q = Q (.bl (decide (i = j))) st := rfl
theorem oNe_ii : oNe st (.int i) (.int j) Q = Q (.bl (!decide (i = j))) st := rfl
theorem oEq_ss : oEq st (.str l) (.str m) Q = Q (.bl (decide (l = m))) st := rfl
theorem oNe_ss : oNe st (.str l) (.str m) Q = Q (.bl (!decide (l = m))) st := rfl
theorem cInt_i : cInt st [.int i] Q = Q (.int i) st := rfl
theorem cInt_b : cInt st [.bl b] Q = Q (.int (if b then 1 else 0)) st := rfl
theorem cAbs_i : cAbs st [.int i] Q = Q (.int (if i < 0 then -i else i)) st := rfl
theorem cLen_s : cLen st [.str l] Q = (l.length ≤ 1000000 ∧ Q (.int l.length) st) := rfl
theorem cLen_l : cLen st [.lst xs] Q = Q (.int xs.length) st := rfl
theorem cLen_f : cLen st [.frl xs] Q = Q (.int xs.length) st := rfl
theorem cLen_t : cLen st [.tup xs] Q = Q (.int xs.length) st := rfl
theorem cMin_2 : cMaxMin mn st [.int i, .int j] Q = Q (.int (mn i j)) st := rfl
theorem cMax_2 : cMaxMin mx st [.int i, .int j] Q = Q (.int (mx i j)) st := rfl
theorem cMax_3 {k : Int} : cMaxMin mx st [.int i, .int j, .int k] Q = Q (.int (mx (mx i j) k)) st := rfl
theorem cTuple_l : cTuple st [.lst xs] Q = Q (.tup xs) st := rfl
theorem cTuple_t : cTuple st [.tup xs] Q = Q (.tup xs) st := rfl
theorem cDivmod_ii : cDivmod st [.int i, .int j] Q = (CDiv i j ∧ Q (.tup [.int (i / j), .int (i % j)]) st) := rfl
theorem cListC_s : cListC st [.str l] Q = (l.length ≤ 1000 ∧ Q (.cel st.length) (st ++ [.lst (l.map fun c => .str [c])])) := rfl
theorem items_l {R : List D → (Store → Prop) → Prop} : itemsD st (.lst xs) R = R xs fun _ => True := rfl
theorem items_t {R : List D → (Store → Prop) → Prop} : itemsD st (.tup xs) R = R xs fun _ => True := rfl
theorem items_s {R : List D → (Store → Prop) → Prop} : itemsD st (.str l) R = R (l.map fun c => .str [c]) fun _ => True := rfl
end
theorem items_c {st : Store} {n : Nat} {xs : List D} {R : List D → (Store → Prop) → Prop} (h : st[n]? = some (.lst xs)) (q : R xs fun st' => st'[n]? = some (.lst xs)) : itemsD st (.cel n) R := by
  unfold itemsD; simp only [h]; exact q
theorem oIx_cel {st : Store} {n : Nat} {x : D} {xs : List D} {v : Int} {i : Nat} {Q : QD} (h : st[n]? = some (.lst xs)) (hv : v = i) (hc : xs[i]? = some x) (q : Q x st) : oIx st (.cel n) (.int v) Q := oIx_seq (.inl (dr_of h)) hv hc q
theorem things_step {C : Addr} {st : Store} {t : D} {l : List Nat} {far : Nat → Nat → Int} {Q : QD} (hT : TabOk C st t l far) (q : Q (.str l) st) : isO st C t fun fs => fldK "_things" st fs Q := isO_of hT.dr (fldK_of rfl q)
theorem chk_table {C : Addr} {st : Store} {t : D} {l : List Nat} {far : Nat → Nat → Int} {Q : QD} (hT : TabOk C st t l far) (q : Q .non st) : S_check_table C st [t] Q := ⟨t, _, rfl, hT.dr, q⟩
theorem chk_thing {C : Addr} {st : Store} {t : D} {l : List Nat} {far : Nat → Nat → Int} {a : Nat} {Q : QD} (hT : TabOk C st t l far) (ha : a ∈ l) (q : Q .non st) : isO st C t fun fs => fldK "_things" st fs fun x st1 => S_check_thing st1 [x, .str [a]] Q :=
  things_step hT ⟨l, a, rfl, by have := hT.sev; omega, lot_nd hT.lot, ha, q⟩
theorem chk_parting {C : Addr} {st : Store} {t : D} {l : List Nat} {far : Nat → Nat → Int} {p : List Nat} {Q : QD} (hT : TabOk C st t l far) (hp : isPartingM p l = true) (q : Q .non st) : isO st C t fun fs => fldK "_things" st fs fun x st1 => S_check_parting st1 [x, .str p] Q :=
  things_step hT ⟨l, p, rfl, by have := hT.sev; omega, by
    have h := hT.sev
    have : p.length ≤ l.length := by
      unfold isPartingM at hp
      rw [Bool.and_eq_true] at hp
      have h := of_decide_eq_true (show decide _ = true from hp.1)
      rw [h]
      exact Nat.le_trans (List.length_filter_le _ _) (by rw [List.length_drop]; omega)
    omega, hp, q⟩
theorem ix20 {st : Store} {x y : D} {Q : QD} : oIx st (.tup [x, y]) (.int 0) Q = Q x st := rfl
theorem ix21 {st : Store} {x y : D} {Q : QD} : oIx st (.tup [x, y]) (.int 1) Q = Q y st := rfl
theorem twos_mem : ∀ {l : List Nat} {p : Nat × Nat}, p ∈ twosL l → p.1 ∈ l ∧ p.2 ∈ l
  | a :: l, p, h => by
    rw [twosL, List.mem_append] at h
    rcases h with h | h
    · obtain ⟨b, hb, rfl⟩ := List.mem_map.mp h
      exact ⟨List.mem_cons_self, hb⟩
    · have := twos_mem h
      exact ⟨List.mem_cons_of_mem _ this.1, List.mem_cons_of_mem _ this.2⟩
theorem twos_some {l : List Nat} (h : l ≠ []) : twosL l ≠ [] := by
  cases l with
  | nil => exact absurd rfl h
  | cons a l => rw [twosL]; simp
theorem twos_len : ∀ l : List Nat, (twosL l).length ≤ l.length * l.length
  | [] => Nat.le_refl _
  | a :: l => by
    rw [twosL, List.length_append, List.length_map, List.length_cons]
    have := twos_len l
    have e : (l.length + 1) * (l.length + 1) = l.length * l.length + 2 * l.length + 1 := by simp only [Nat.add_mul, Nat.mul_add]; omega
    omega
theorem other_some {l p : List Nat} (hn : l.Nodup) (h2 : 2 ≤ l.length) (hp : isPartingM p l = true) : otherM l p ≠ [] := by
  match l, h2 with
  | a :: r, _ =>
    have ha : a ∉ p := fun q => by
      unfold isPartingM at hp
      rw [Bool.and_eq_true] at hp
      have := lot_sub hp.1 a q
      exact (List.nodup_cons.mp hn).1 this
    intro z
    have : a ∈ otherM (a :: r) p := List.mem_filter.mpr ⟨List.mem_cons_self, by simp [ha]⟩
    rw [z] at this; cases this
theorem parting_some {l p : List Nat} (hp : isPartingM p l = true) : p ≠ [] := by
  unfold isPartingM at hp
  rw [Bool.and_eq_true] at hp
  have := of_decide_eq_true hp.2
  intro z; subst z; cases this
theorem parting_len {l p : List Nat} (hp : isPartingM p l = true) : p.length ≤ l.length := by
  unfold isPartingM at hp
  rw [Bool.and_eq_true] at hp
  have h := of_decide_eq_true (show decide _ = true from hp.1)
  rw [h]
  exact Nat.le_trans (List.length_filter_le _ _) (by rw [List.length_drop]; omega)
theorem other_len (l p : List Nat) : (otherM l p).length ≤ l.length := List.length_filter_le _ _
theorem other_mem {l p : List Nat} {c : Nat} (h : c ∈ otherM l p) : c ∈ l := (List.mem_filter.mp h).1
theorem rooms_some {l p : List Nat} {far : Nat → Nat → Int} (hn : l.Nodup) (h2 : 2 ≤ l.length) (hp : isPartingM p l = true) : roomsL l far p ≠ [] := by
  unfold roomsL
  cases h : twosL (otherM l p) with
  | nil => exact absurd h (twos_some (other_some hn h2 hp))
  | cons t ts =>
    cases h' : twosL p with
    | nil => exact absurd h' (twos_some (parting_some hp))
    | cons o os => simp
end Pd
set_option Elab.async false
set_option linter.all false
set_option maxRecDepth 100000
set_option maxHeartbeats 4000000
/-! what the drawing defs of the laws k20 to k28 are to do, told of data -/
namespace Ld
open PySem PySem.Spec PyProof.Rows L2 Nf DL Nd Pd
/-- the urn stands in cell u -/
def urnAt (st : Store) (u : Nat) : Prop := ∃ a b : Int, st[u]? = some (.lst [.int a, .int b]) ∧ 0 ≤ a ∧ 0 ≤ b
/-- from st to st' the urn alone has moved -/
def Drew (st : Store) (u : Nat) (st' : Store) : Prop := ∃ a b : Int, 0 ≤ a ∧ 0 ≤ b ∧ st' = st.set u (.lst [.int a, .int b])
theorem urnAt.drew {st st' : Store} {u : Nat} (h : urnAt st u) (d : Drew st u st') : urnAt st' u := by
  obtain ⟨a, b, h1, _, _⟩ := h
  obtain ⟨a', b', h2, h3, rfl⟩ := d
  exact ⟨a', b', set_at h1, h2, h3⟩
theorem Drew.trans {st st1 st2 : Store} {u : Nat} (d : Drew st u st1) (e : Drew st1 u st2) : Drew st u st2 := by
  obtain ⟨a, b, h1, h2, rfl⟩ := d
  obtain ⟨a', b', h3, h4, rfl⟩ := e
  exact ⟨a', b', h3, h4, by rw [List.set_set]⟩
theorem set_same {st : Store} {u : Nat} {c : Cell} (h : st[u]? = some c) : st.set u c = st := by
  apply List.ext_getElem?
  intro i
  by_cases e : u = i
  · subst e; rw [set_at h, h]
  · rw [List.getElem?_set_ne e]
theorem Drew.refl {st : Store} {u : Nat} (h : urnAt st u) : Drew st u st := by
  obtain ⟨a, b, h1, h2, h3⟩ := h
  exact ⟨a, b, h2, h3, (set_same h1).symm⟩
theorem Drew.other {st st' : Store} {u n : Nat} (d : Drew st u st') (h : n ≠ u) : st'[n]? = st[n]? := by
  obtain ⟨a, b, h1, h2, rfl⟩ := d
  exact List.getElem?_set_ne (fun e => h e.symm)
theorem Drew.len {st st' : Store} {u : Nat} (d : Drew st u st') : st'.length = st.length := by
  obtain ⟨a, b, h1, h2, rfl⟩ := d
  exact List.length_set ..
/-- behind more cells -/
theorem Drew.ext {st ex st' : Store} {u : Nat} (h : urnAt st u) (d : Drew (st ++ ex) u st') : ∃ st1, Drew st u st1 ∧ st' = st1 ++ ex := by
  obtain ⟨a, b, h1, _, _⟩ := h
  obtain ⟨a', b', h3, h4, rfl⟩ := d
  exact ⟨_, ⟨a', b', h3, h4, rfl⟩, set_ext h1⟩
theorem urnAt.ext {st : Store} (ex : Store) {u : Nat} (h : urnAt st u) : urnAt (st ++ ex) u := by
  obtain ⟨a, b, h1, h2, h3⟩ := h
  exact ⟨a, b, ext_at h1, h2, h3⟩
theorem urnAt.lt {st : Store} {u : Nat} (h : urnAt st u) : u < st.length := by
  obtain ⟨a, b, h1, _⟩ := h
  exact (List.getElem?_eq_some_iff.mp h1).1
theorem clo_urn (n : Nat) (a b : Int) : CloC n (.lst [.int a, .int b]) := by
  simp only [CloC, CloL, Clo]; exact ⟨trivial, trivial, trivial⟩
/-- the end of a def that has drawn -/
theorem exit_drew {st0 st' : Store} (ex : Store) {u : Nat} {Qd : QD} {d : D} (h : pl d = true) (dr : Drew st0 u st') (q : Qd d st') : exitF st0 Qd d (st' ++ ex) := by
  obtain ⟨a, b, h1, h2, rfl⟩ := dr
  exact exit_set ex h (clo_urn _ a b) q
theorem exit_drew0 {st0 st' : Store} {u : Nat} {Qd : QD} {d : D} (h : pl d = true) (dr : Drew st0 u st') (q : Qd d st') : exitF st0 Qd d st' := by
  have := exit_drew [] h dr q
  rwa [List.append_nil] at this
def S_law_urn : MC := fun st ds Q => ∃ (ns : List Int) (t : Nat), ds = [.frl (ns.map D.int), .int t] ∧ ns.length ≤ 1000000 ∧ ∀ a b : Int, 0 ≤ a → 0 ≤ b → Q (.cel st.length) (st ++ [.lst [.int a, .int b]])
def S_law_cast : MC := fun st ds Q => ∃ (u n : Nat), ds = [.cel u, .int n] ∧ urnAt st u ∧ 0 < n ∧ n ≤ 1000000000 ∧ ∀ (v : Nat) st', Drew st u st' → v < n → Q (.int v) st'
/-- what is picked of: signs of a text, items -/
def pickOf (d : D) (xs : List D) : Prop := (∃ l, d = .str l ∧ xs = l.map fun c => .str [c]) ∨ d = .lst xs ∨ d = .tup xs
def S_law_pick : MC := fun st ds Q => ∃ (u : Nat) (d : D) (xs : List D), ds = [.cel u, d] ∧ urnAt st u ∧ pickOf d xs ∧ xs ≠ [] ∧ xs.length ≤ 1000000 ∧ plL xs = true ∧ ∀ x st', Drew st u st' → x ∈ xs → Q x st'
def sg (l : List Nat) : List D := l.map fun c => D.str [c]
theorem sg_erase : ∀ (l : List Nat) (i : Nat), (sg l).eraseIdx i = sg (l.eraseIdx i)
  | [], _ => rfl
  | a :: l, 0 => rfl
  | a :: l, i + 1 => by
    show D.str [a] :: (sg l).eraseIdx i = D.str [a] :: sg (l.eraseIdx i)
    rw [sg_erase l i]
theorem sg_len (l : List Nat) : (sg l).length = l.length := List.length_map _
theorem sg_get (l : List Nat) (i : Nat) : (sg l)[i]? = (l[i]?).map fun c => D.str [c] := List.getElem?_map ..
theorem sg_pl (l : List Nat) : plL (sg l) = true := plL_map _ (fun _ => rfl) l
theorem two_at0 {st : Store} {A B : Cell} : (st ++ [A, B])[st.length]? = some A := by rw [List.getElem?_append_right (Nat.le_refl _), Nat.sub_self]; rfl
theorem two_at1 {st : Store} {A B : Cell} : (st ++ [A, B])[st.length + 1]? = some B := by rw [List.getElem?_append_right (by omega)]; simp
theorem two_set0 {st : Store} {A B A' : Cell} : (st ++ [A, B]).set st.length A' = st ++ [A', B] := by rw [List.set_append_right _ _ (Nat.le_refl _), Nat.sub_self]; rfl
theorem two_set1 {st : Store} {A B B' : Cell} : (st ++ [A, B]).set (st.length + 1) B' = st ++ [A, B'] := by rw [List.set_append_right _ _ (by omega)]; simp
theorem cLen_c {st : Store} {n : Nat} {xs : List D} {Q : QD} (h : st[n]? = some (.lst xs)) (q : Q (.int xs.length) st) : cLen st [.cel n] Q := by
  unfold cLen
  simp only [dr_of h]
  exact q
theorem slD_lst {st : Store} {xs : List D} {lo hi : Option Int} {Q : QD} : slD st (.lst xs) lo hi Q = Q (.lst (DL.cutD xs lo hi)) st := rfl
theorem joinK_strs {st : Store} {ls : List (List Nat)} {Q : QD} (hl : (ls.map List.length).sum ≤ 1000000) (q : Q (.str ls.flatten) st) : joinK (("" : Str).cps.toList) st (.lst (ls.map D.str)) Q := by
  refine ⟨ls, .inl rfl, ?_, ?_⟩
  · show (ls.map List.length).sum + ls.length * 0 ≤ 1000000
    omega
  · show Q (.str (joinM [] ls)) st
    unfold joinM
    rw [joinL_nil]
    exact q
theorem twos_step (l : List Nat) (i : Nat) : twosTo l (i + 1) = twosTo l i ++ (l.drop (i + 1)).map fun m => [l.getD i 0, m] := range_flat _ i
theorem twos_mono (l : List Nat) (i : Nat) : ∀ k, (twosTo l i).length ≤ (twosTo l (i + k)).length
  | 0 => Nat.le_refl _
  | k + 1 => by
    have e : i + (k + 1) = (i + k) + 1 := by omega
    rw [e, twos_step, List.length_append]
    exact Nat.le_trans (twos_mono l i k) (Nat.le_add_right _ _)
theorem twos_small {l : List Nat} (hl : l.length ≤ 7) {i : Nat} (hi : i ≤ l.length) : (twosTo l i).length ≤ 35 := by
  have h := twos_mono l i (l.length - i)
  have e : i + (l.length - i) = l.length := by omega
  rw [e, twos_all, combIx_A] at h
  exact Nat.le_trans h (comb_le hl)
def S_law_shuffled : MC := fun st ds Q => ∃ (u : Nat) (l : List Nat), ds = [.cel u, .str l] ∧ urnAt st u ∧ l.length ≤ 1000 ∧ ∀ row st', Drew st u st' → row.Perm l → Q (.lst (sg row)) st'
def S_law_names : MC := fun st ds Q => ∃ (u a b : Nat), ds = [.cel u, .int a, .int b] ∧ urnAt st u ∧ a ≤ b ∧ b ≤ 7 ∧ ∀ l st', Drew st u st' → Nm l a b → Q (.str l) st'
def S_law_twos : MC := fun st ds Q => ∃ l : List Nat, ds = [.str l] ∧ l.length ≤ 7 ∧ Q (.lst ((combA 2 l).map D.str)) st
/-- a dict of pairs, each ascending pair once -/
def knownK (l : List Nat) (fv : List Nat → Int) : List (DK × D) := (combA 2 l).map fun r => (.inr r, .int (fv r))
/-- a dict of the distances of any two -/
structure FarK (l : List Nat) (kvs : List (DK × D)) (far : Nat → Nat → Int) : Prop where
  nd : NdK kvs
  pl : plK kvs = true
  len : kvs.length ≤ 1000
  look : ∀ a ∈ l, ∀ b ∈ l, lookD (.inr [a, b]) kvs = some (.int (far a b))
def fvOk (l : List Nat) (fv : List Nat → Int) : Prop := ∀ r ∈ combA 2 l, 0 ≤ fv r ∧ fv r ≤ 1000000
def S_law_both : MC := fun st ds Q => ∃ (l : List Nat) (fv : List Nat → Int), ds = [.str l, .dic (knownK l fv)] ∧ l.Nodup ∧ l.length ≤ 7 ∧ fvOk l fv ∧ ∀ kvs far, FarK l kvs far → FarOk l far → Q (.cel st.length) (st ++ [.dic kvs])
theorem pairsOf_map {α : Type} (k : α → List Nat) (d : α → D) : ∀ l : List α, DL.pairsOf (l.map fun a => D.tup [.str (k a), d a]) = some (l.map fun a => (.inr (k a), d a))
  | [] => rfl
  | a :: l => by
    rw [List.map_cons, DL.pairsOf, pairsOf_map k d l]
    rfl
theorem cDict_map {α : Type} {st : Store} {k : α → List Nat} {d : α → D} {l : List α} {Q : QD} (q : Q (.dic (mergeD [] (l.map fun a => (.inr (k a), d a)))) st) : cDict st [.lst (l.map fun a => D.tup [.str (k a), d a])] Q := by
  show match DL.pairsOf _ with | some ps => Q (.dic (mergeD [] ps)) st | none => False
  rw [pairsOf_map]; exact q
theorem cDictC_map {α : Type} {st : Store} {k : α → List Nat} {d : α → D} {l : List α} {Q : QD} (q : Q (.cel st.length) (st ++ [.dic (mergeD [] (l.map fun a => (.inr (k a), d a)))])) : cDictC st [.lst (l.map fun a => D.tup [.str (k a), d a])] Q := by
  show match DL.pairsOf _ with | some ps => Q (.cel st.length) (st ++ [.dic (mergeD [] ps)]) | none => False
  rw [pairsOf_map]; exact q
theorem putD_new {k : DK} {d : D} : ∀ {kvs : List (DK × D)}, k ∉ kvs.map Prod.fst → putD k d kvs = kvs ++ [(k, d)]
  | [], _ => rfl
  | (j, e) :: r, h => by
    simp only [List.map_cons, List.mem_cons, not_or] at h
    unfold putD
    rw [if_neg (fun z => h.1 z.symm), putD_new h.2]; rfl
theorem merge_nd : ∀ {ps kvs : List (DK × D)}, ((kvs ++ ps).map Prod.fst).Nodup → mergeD kvs ps = kvs ++ ps
  | [], kvs, _ => by rw [List.append_nil]; rfl
  | p :: ps, kvs, h => by
    show mergeD (putD p.1 p.2 kvs) ps = _
    rw [List.map_append, List.map_cons, List.nodup_append] at h
    have hn : p.1 ∉ kvs.map Prod.fst := fun z => h.2.2 _ z _ List.mem_cons_self rfl
    rw [putD_new hn, merge_nd]
    · rw [List.append_assoc]; rfl
    · rw [List.map_append, List.map_append, List.append_assoc, List.nodup_append]
      exact ⟨h.1, h.2.1, h.2.2⟩
theorem comb_nd {l : List Nat} (h : l.Nodup) : (combA 2 l).Nodup := by rw [← combIx_A]; exact combIx_nd 2 l h
theorem inr_nd {ls : List (List Nat)} (h : ls.Nodup) : (ls.map fun r => (Sum.inr r : DK)).Nodup := h.map _ fun a b e z => e (by injection z)
theorem merge_known {l : List Nat} (h : l.Nodup) (fv : List Nat → Int) : mergeD [] ((combA 2 l).map fun r => ((Sum.inr r : DK), D.int (fv r))) = knownK l fv := by
  rw [merge_nd]
  · rfl
  · rw [List.nil_append, List.map_map]
    exact inr_nd (comb_nd h)
theorem known_look {l : List Nat} {fv : List Nat → Int} {r : List Nat} (h : r ∈ combA 2 l) : lookD (.inr r) (knownK l fv) = some (.int (fv r)) := by
  unfold knownK
  generalize combA 2 l = ls at h
  induction ls with
  | nil => cases h
  | cons a ls ih =>
    rw [List.map_cons, lookD]
    by_cases e : a = r
    · subst e; rw [if_pos rfl]
    · rw [if_neg (fun z => e (by injection z))]
      exact ih ((List.mem_cons.mp h).resolve_left fun z => e z.symm)
theorem not_both {a b : Nat} : ∀ {l : List Nat}, l.Nodup → [a, b] ∈ combA 2 l → [b, a] ∉ combA 2 l
  | [], _, h => by cases h
  | c :: r, hn, h => by
    rw [List.nodup_cons] at hn
    have c1 : combA 1 r = r.map fun m => [m] := by rw [← combIx_A, comb1]
    rw [combA, c1, List.map_map, List.mem_append] at h ⊢
    intro h'
    have hmem : ∀ {x y : Nat}, [x, y] ∈ combA 2 r → x ∈ r ∧ y ∈ r := fun q => by
      have := (combA_mem 2 r _ q).2
      exact ⟨this _ (by simp), this _ (by simp)⟩
    rcases h with h | h
    · obtain ⟨m, hm, e⟩ := List.mem_map.mp h
      have e : [c, m] = [a, b] := e
      simp only [List.cons.injEq, and_true] at e
      obtain ⟨rfl, rfl⟩ := e
      rcases h' with h' | h'
      · obtain ⟨m', hm', e'⟩ := List.mem_map.mp h'
        have e' : [c, m'] = [m, c] := e'
        simp only [List.cons.injEq, and_true] at e'
        exact hn.1 (e'.1 ▸ hm)
      · exact hn.1 (hmem h').2
    · rcases h' with h' | h'
      · obtain ⟨m', hm', e'⟩ := List.mem_map.mp h'
        have e' : [c, m'] = [b, a] := e'
        simp only [List.cons.injEq, and_true] at e'
        exact hn.1 (e'.1 ▸ (hmem h).2)
      · exact not_both hn.2 h h'
open Classical in
/-- the distances that a dict of pairs makes -/
noncomputable def farOf (l : List Nat) (fv : List Nat → Int) (a b : Nat) : Int := if a = b then 0 else if [a, b] ∈ combA 2 l then fv [a, b] else fv [b, a]
theorem farOf_row {l : List Nat} (hn : l.Nodup) (fv : List Nat → Int) : rowsF l (farOf l fv) = (combA 2 l).map fun r => (r, fv r) := by
  unfold rowsF
  refine List.map_congr_left fun r hr => ?_
  obtain ⟨a, b, rfl, _, _⟩ := comb2_pair hr
  show ([a, b], farOf l fv a b) = _
  unfold farOf
  rw [if_neg (comb2_ne hn hr), if_pos hr]
theorem farOf_ok {l : List Nat} (hn : l.Nodup) {fv : List Nat → Int} (h : fvOk l fv) : FarOk l (farOf l fv) where
  sym := fun a ha b hb => by
    unfold farOf
    by_cases e : a = b
    · subst e; rfl
    · have e' : ¬ b = a := fun z => e z.symm
      rw [if_neg e, if_neg e']
      by_cases m : [a, b] ∈ combA 2 l
      · rw [if_pos m, if_neg (not_both hn m)]
      · by_cases m' : [b, a] ∈ combA 2 l
        · rw [if_neg m, if_pos m']
        · exfalso
          rcases comb2_of l a b ha hb e with q | q
          · rw [combIx_A] at q; exact m q
          · rw [combIx_A] at q; exact m' q
  self := fun a _ => by unfold farOf; rw [if_pos rfl]
  low := fun a ha b hb => by
    unfold farOf
    by_cases e : a = b
    · rw [if_pos e]; exact Int.le_refl _
    · rw [if_neg e]
      by_cases m : [a, b] ∈ combA 2 l
      · rw [if_pos m]; exact (h _ m).1
      · rw [if_neg m]
        rcases comb2_of l a b ha hb e with q | q
        · rw [combIx_A] at q; exact absurd q m
        · rw [combIx_A] at q; exact (h _ q).1
  top := fun a ha b hb => by
    unfold farOf
    by_cases e : a = b
    · rw [if_pos e]; decide
    · rw [if_neg e]
      by_cases m : [a, b] ∈ combA 2 l
      · rw [if_pos m]; exact (h _ m).2
      · rw [if_neg m]
        rcases comb2_of l a b ha hb e with q | q
        · rw [combIx_A] at q; exact absurd q m
        · rw [combIx_A] at q; exact (h _ q).2
theorem bothK_far {l : List Nat} (hn : l.Nodup) (hl : l.length ≤ 7) {far : Nat → Nat → Int} (F : FarOk l far) : FarK l (bothK l (rowsF l far)) far where
  nd := bothK_nd _ _
  pl := bothK_pl _ _
  len := by
    have h1 := bothS_len (rowsF l far) (selfK l)
    have h2 := selfK_len l []
    have h3 : (rowsF l far).length ≤ 35 := by rw [rowsF, List.length_map]; exact comb_le hl
    have h4 : (selfK l).length ≤ l.length := by rw [List.length_nil, Nat.zero_add] at h2; exact h2
    unfold bothK
    omega
  look := fun a ha b hb => look_both hn F ha hb
theorem oNe_bb {st : Store} {a b : Bool} {Q : QD} : oNe st (.bl a) (.bl b) Q = Q (.bl (!decide (a = b))) st := rfl
theorem ne_bool (a b : Bool) : (!decide (a = b)) = (a != b) := by cases a <;> cases b <;> rfl
theorem oIn_s {st : Store} {c : Nat} {l : List Nat} {neg : Bool} {Q : QD} : oInB neg st (.str [c]) (.str l) Q = Q (.bl (neg != decide (c ∈ l))) st := rfl
theorem sg_flat : ∀ l : List Nat, (sg l).all flatD = true
  | [] => rfl
  | _ :: l => by
    show (true && (sg l).all flatD) = true
    rw [sg_flat l]; rfl
theorem inF_sg (c : Nat) (l : List Nat) : inF (.str [c]) (sg l) = decide (c ∈ l) := by
  have e : sg l = (l.map fun c => [c]).map D.str := by unfold sg; rw [List.map_map]; rfl
  rw [e, inF_strs]
  refine decide_eq_decide.mpr ?_
  rw [List.mem_map]
  exact ⟨fun ⟨x, hx, e⟩ => by injection e with e; rw [← e]; exact hx, fun h => ⟨c, h, rfl⟩⟩
theorem oIn_sg {st : Store} {c : Nat} {l : List Nat} {neg : Bool} {Q : QD} (q : Q (.bl (neg != decide (c ∈ l))) st) : oInB neg st (.str [c]) (.lst (sg l)) Q := by
  show (flatD (.str [c]) = true ∧ (sg l).all flatD = true) ∧ Q (.bl (neg != inF (.str [c]) (sg l))) st
  rw [inF_sg]
  exact ⟨⟨rfl, sg_flat l⟩, q⟩
theorem known_pl (l : List Nat) (fv : List Nat → Int) : plK (knownK l fv) = true := by
  unfold knownK
  generalize combA 2 l = ls
  induction ls with
  | nil => rfl
  | cons r ls ih => rw [List.map_cons, plK, ih]; rfl
theorem sum_le : ∀ (ms : List (List Nat × Int)), (∀ m ∈ ms, 0 ≤ m.2 ∧ m.2 ≤ 1000) → 0 ≤ (ms.map (·.2)).sum ∧ (ms.map (·.2)).sum ≤ 1000 * (ms.length : Int)
  | [], _ => by simp
  | m :: ms, h => by
    have h1 := h m List.mem_cons_self
    have h2 := sum_le ms fun x hx => h x (List.mem_cons_of_mem _ hx)
    rw [List.map_cons, List.sum_cons, List.length_cons]
    omega
theorem dr_dic {st : Store} {n : Nat} {kvs : List (DK × D)} (h : st[n]? = some (.dic kvs)) : dr st (.cel n) = .dic kvs := by simp only [dr, h]
theorem putD_len_old {k : DK} {d e : D} : ∀ {kvs : List (DK × D)}, lookD k kvs = some e → (putD k d kvs).length = kvs.length
  | [], h => by cases h
  | (j, x) :: r, h => by
    unfold putD
    unfold lookD at h
    by_cases z : j = k
    · rw [if_pos z]; rfl
    · rw [if_neg z] at h ⊢
      rw [List.length_cons, List.length_cons, putD_len_old h]
theorem FarK.congr {l : List Nat} {kvs : List (DK × D)} {g g' : Nat → Nat → Int} (h : FarK l kvs g) (e : ∀ a ∈ l, ∀ b ∈ l, g a b = g' a b) : FarK l kvs g' :=
  ⟨h.nd, h.pl, h.len, fun a ha b hb => by rw [← e a ha b hb]; exact h.look a ha b hb⟩
theorem FarK.put {l : List Nat} {kvs : List (DK × D)} {g : Nat → Nat → Int} (h : FarK l kvs g) {x y : Nat} (hx : x ∈ l) (hy : y ∈ l) (v : Int) : FarK l (putD (.inr [x, y]) (.int v) kvs) (fun a b => if a = x ∧ b = y then v else g a b) where
  nd := putD_nd h.nd
  pl := plK_put rfl h.pl
  len := by rw [putD_len_old (h.look x hx y hy)]; exact h.len
  look := fun a ha b hb => by
    rw [lookD_put]
    by_cases e : a = x ∧ b = y
    · rw [if_pos e, if_pos (by rw [e.1, e.2])]
    · have : ¬ (Sum.inr [a, b] : DK) = .inr [x, y] := fun z => e (by injection z with z; simp only [List.cons.injEq, and_true] at z; exact z)
      rw [if_neg e, if_neg this]
      exact h.look a ha b hb
/-- by way of m -/
def viaM (g : Nat → Nat → Int) (m a b : Nat) : Int := mn (g a b) (g a m + g m b)
theorem via_ok {l : List Nat} {g : Nat → Nat → Int} {m : Nat} (hm : m ∈ l) (F : FarOk l g) : FarOk l (viaM g m) where
  sym := fun a ha b hb => by
    unfold viaM
    rw [F.sym a ha b hb, F.sym a ha m hm, F.sym m hm b hb, Int.add_comm]
  self := fun a ha => by
    unfold viaM mn
    rw [F.self a ha]
    have h1 := F.low a ha m hm
    have h2 := F.low m hm a ha
    rw [if_neg (by omega)]
  low := fun a ha b hb => by
    have h1 := F.low a ha m hm
    have h2 := F.low m hm b hb
    have h3 := F.low a ha b hb
    unfold viaM mn
    split <;> omega
  top := fun a ha b hb => by
    have h3 := F.top a ha b hb
    have := mn_le (g a b) (g a m + g m b)
    unfold viaM
    omega
theorem via_l {l : List Nat} {g : Nat → Nat → Int} {m : Nat} (hm : m ∈ l) (F : FarOk l g) {a : Nat} : viaM g m a m = g a m := by
  unfold viaM mn
  rw [F.self m hm]
  rw [if_neg (by omega)]
theorem via_r {l : List Nat} {g : Nat → Nat → Int} {m : Nat} (hm : m ∈ l) (F : FarOk l g) {b : Nat} : viaM g m m b = g m b := by
  unfold viaM mn
  rw [F.self m hm]
  rw [if_neg (by omega)]
theorem not_in_take {l : List Nat} (hn : l.Nodup) {j c : Nat} (h : l[j]? = some c) : c ∉ l.take j := by
  intro z
  obtain ⟨i, hi⟩ := List.mem_iff_getElem?.mp z
  rw [List.getElem?_take] at hi
  split at hi
  · rename_i hlt
    have h1 := List.getElem?_eq_some_iff.mp hi
    have h2 := List.getElem?_eq_some_iff.mp h
    obtain ⟨a1, a2⟩ := h1
    obtain ⟨b1, b2⟩ := h2
    have := (List.nodup_iff_pairwise_ne.mp hn)
    have q := List.pairwise_iff_getElem.mp this i j a1 b1 hlt
    exact q (a2.trans b2.symm)
  · cases hi
theorem mem_take_succ {l : List Nat} {j c a : Nat} (h : l[j]? = some c) : a ∈ l.take (j + 1) ↔ a ∈ l.take j ∨ a = c := by
  rw [take_snoc h, List.mem_append, List.mem_singleton]
theorem exit_setC {st0 : Store} {u : Nat} {cc : Cell} {Qd : QD} (hu : u < st0.length) (hc : CloC st0.length cc) (q : Qd (.cel u) (st0.set u cc)) : exitF st0 Qd (.cel u) (st0.set u cc) := by
  refine exit_gen (d' := .cel u) (st' := st0.set u cc) ?_ (by simp only [Clo]; exact hu) ?_ ?_ q
  · show (if u < st0.length then D.cel u else _) = _
    rw [if_pos hu]
  · have := old_set (st0 := st0) (ex := []) (u := u) hc
    rwa [List.append_nil] at this
  · have := take_set (st0 := st0) (ex := []) (u := u) (cc := cc)
    rwa [List.append_nil] at this
theorem known_keys (l : List Nat) (fv : List Nat → Int) : (knownK l fv).map (fun p => keyOf p.1) = (combA 2 l).map D.str := by
  unfold knownK; rw [List.map_map]; rfl
theorem exit_tupD {st0 st' : Store} (ex : Store) {u : Nat} {l : List Nat} {kvs : List (DK × D)} {Qd : QD} (hu : urnAt st0 u) (dr : Drew st0 u st') (hp : plK kvs = true) (q : Qd (.tup [.str l, .dic kvs]) st') : exitF st0 Qd (.tup [.str l, .cel (st' ++ ex).length]) ((st' ++ ex) ++ [.dic kvs]) := by
  have hlen := dr.len
  have hl : ¬ (st' ++ ex).length < st0.length := by rw [List.length_append, hlen]; omega
  have e1 : fz1 st0.length ((st' ++ ex) ++ [.dic kvs]) (.cel (st' ++ ex).length) = .dic kvs := by
    show (if _ < st0.length then _ else _) = _
    rw [if_neg hl, last_at]
  obtain ⟨a, b, h1, h2, rfl⟩ := id dr
  rw [List.append_assoc] at e1 ⊢
  refine exit_gen (d' := .tup [.str l, .dic kvs]) ?_ (pl.clo _ ?_) (old_set (clo_urn _ a b)) take_set q
  · show D.tup [fz1 _ _ (.str l), fz1 _ _ _] = _
    rw [e1]; rfl
  · simp only [pl, plL, hp]; rfl
theorem oIn_ll {st : Store} {a : D} {xs : List D} {neg : Bool} {Q : QD} (h1 : flatD a = true) (h2 : xs.all flatD = true) (q : Q (.bl (neg != inF a xs)) st) : oInB neg st a (.lst xs) Q := ⟨⟨h1, h2⟩, q⟩
def S_law_made (C : Addr) : MC := fun st ds Q => ∃ (l : List Nat) (kvs : List (DK × D)) (far : Nat → Nat → Int), ds = [.str l, .dic kvs] ∧ Nm l 2 7 ∧ FarK l kvs far ∧ FarOk l far ∧ Q (tabD C l far) st
def S_law_lots : MC := fun st ds Q => ∃ l : List Nat, ds = [.str l] ∧ l.length ≤ 7 ∧ Q (.lst ((srt (lotsL (l.drop 1))).map D.str)) st
def S_law_splits : MC := fun st ds Q => ∃ (p : List Nat) (d : D) (a b : Nat), ds = [d, .str [a, b]] ∧ (d = .str p ∨ d = .lst (sg p)) ∧ Q (.bl (isPartedM p a b)) st
/-- marks: lots and numbers -/
def marksD (ms : List (List Nat × Int)) : List D := ms.map fun m => D.tup [.lst (sg m.1), .int m.2]
def S_law_summed : MC := fun st ds Q => ∃ (l : List Nat) (n : Nat) (ms : List (List Nat × Int)), ds = [.str l, .cel n] ∧ st[n]? = some (.lst (marksD ms)) ∧ l.Nodup ∧ l.length ≤ 7 ∧ ms.length ≤ 100 ∧ (∀ m ∈ ms, 0 ≤ m.2 ∧ m.2 ≤ 1000) ∧ ∀ fv, fvOk l fv → Q (.dic (knownK l fv)) st
def S_law_shortened : MC := fun st ds Q => ∃ (l : List Nat) (n : Nat) (kvs : List (DK × D)) (far : Nat → Nat → Int), ds = [.str l, .cel n] ∧ st[n]? = some (.dic kvs) ∧ l.Nodup ∧ l.length ≤ 7 ∧ FarK l kvs far ∧ FarOk l far ∧ ∀ kvs' far', FarK l kvs' far' → FarOk l far' → Q (.cel n) (st.set n (.dic kvs'))
def S_law_world : MC := fun st ds Q => ∃ (u a b : Nat), ds = [.cel u, .int a, .int b] ∧ urnAt st u ∧ 2 ≤ a ∧ a ≤ b ∧ b ≤ 7 ∧ ∀ l kvs far st', Drew st u st' → Nm l a b → FarK l kvs far → FarOk l far → Q (.tup [.str l, .dic kvs]) st'
end Ld
set_option Elab.async false
set_option linter.all false
set_option maxRecDepth 100000
set_option maxHeartbeats 4000000
/-! partings that cross and clash: pure, and what the defs are to do -/
namespace Cd
open PySem PySem.Spec PyProof.Rows L2 Nf DL Nd Pd Ld
def besideM (p four : List Nat) : List Nat := (four.drop 1).filter fun c => !isPartedM p (four.headD 0) c
def partnerM (p four : List Nat) : List Nat := if (besideM p four).length = 1 then besideM p four else []
def clashB (ps : List (List Nat)) (four : List Nat) : Bool := decide (srt (ps.map fun p => partnerM p four) = (four.drop 1).map fun c => [c])
def clashM (l : List Nat) (ps : List (List Nat)) : Bool := ((combIx 4 l).map (clashB ps)).any id
def crossBs (lots others : List (List Nat)) : List Bool := lots.flatMap fun a => others.map fun b => a.any fun c => decide (c ∈ b)
def crossM (l p q : List Nat) : Bool := (crossBs [p, otherM l p] [q, otherM l q]).all id
def fourStep (acc : List (List Nat)) (c : Nat) : List (List Nat) := acc ++ (acc.filter fun x => decide (x.length < 4)).map fun x => x ++ [c]
def fourT (l : List Nat) : List (List Nat) := l.foldl fourStep [[]]
def fourL (l : List Nat) : List (List Nat) := (fourT l).filter fun x => decide (x.length = 4)
theorem fourT_map (f : Nat → Nat) : ∀ (l : List Nat) (acc : List (List Nat)), (l.map f).foldl fourStep (acc.map (·.map f)) = (l.foldl fourStep acc).map (·.map f)
  | [], acc => rfl
  | c :: l, acc => by
    rw [List.map_cons, List.foldl_cons, List.foldl_cons, ← fourT_map f l]
    congr 1
    simp [fourStep, List.map_map, List.filter_map, Function.comp_def]
theorem four_all : ((List.range 8).all fun n => (fourL (List.range n)).isPerm (combIx 4 (List.range n)) && decide ((fourT (List.range n)).length < 100)) = true := by decide +kernel
theorem fourT_eq (l : List Nat) : fourT l = (fourT (List.range l.length)).map (·.map fun i => l.getD i 0) := by
  have := fourT_map (fun i => l.getD i 0) (List.range l.length) [[]]
  rw [range_map] at this
  exact this
theorem four_comb {l : List Nat} (h : l.length ≤ 7) : (fourL l).Perm (combIx 4 l) := by
  have e1 : fourL l = (fourL (List.range l.length)).map (·.map fun i => l.getD i 0) := by
    unfold fourL
    rw [fourT_eq, List.filter_map]
    simp [Function.comp_def]
  have q := List.all_eq_true.mp four_all l.length (List.mem_range.mpr (by omega))
  rw [Bool.and_eq_true, List.isPerm_iff] at q
  rw [e1, ← comb_rows 4 l]
  exact q.1.map _
theorem fourT_small {l : List Nat} (h : l.length ≤ 7) : (fourT l).length < 100 := by
  have q := List.all_eq_true.mp four_all l.length (List.mem_range.mpr (by omega))
  rw [Bool.and_eq_true, decide_eq_true_iff] at q
  rw [fourT_eq, List.length_map]
  exact q.2
theorem four_snoc {l : List Nat} {i c : Nat} (h : l[i]? = some c) : fourT (l.take (i + 1)) = fourStep (fourT (l.take i)) c := by
  rw [take_snoc h, fourT, List.foldl_append]; rfl
theorem four_len {n : Nat} : ∀ (l : List Nat) (acc : List (List Nat)), (∀ x ∈ acc, x.length ≤ n) → ∀ x ∈ l.foldl fourStep acc, x.length ≤ n + l.length
  | [], acc, h => h
  | c :: l, acc, h => by
    have := four_len (n := n + 1) l (fourStep acc c) (fun x hx => by
      unfold fourStep at hx
      simp only [List.mem_append, List.mem_map] at hx
      rcases hx with hx | ⟨y, hy, rfl⟩
      · exact Nat.le_succ_of_le (h x hx)
      · rw [List.length_append, List.length_singleton]; exact Nat.succ_le_succ (h y (List.mem_filter.mp hy).1))
    intro x hx
    have := this x hx
    rw [List.length_cons]; omega
/-! ### hits -/
def matesM (p four : List Nat) : List Nat := [1, 2, 3].filter fun k => decide (four.getD k 0 ∈ p) == decide (four.getD 0 0 ∈ p)
def hitM (p four : List Nat) : Nat := if (matesM p four).length = 1 then (matesM p four).headD 0 else 0
def gM (four : List Nat) (h : Nat) : List Nat := if h = 0 then [] else [four.getD h 0]
theorem hit_partner (p : List Nat) (x0 x1 x2 x3 : Nat) : partnerM p [x0, x1, x2, x3] = gM [x0, x1, x2, x3] (hitM p [x0, x1, x2, x3]) ∧ hitM p [x0, x1, x2, x3] ≤ 3 := by
  by_cases h0 : x0 ∈ p <;> by_cases h1 : x1 ∈ p <;> by_cases h2 : x2 ∈ p <;> by_cases h3 : x3 ∈ p <;> simp [partnerM, hitM, gM, besideM, matesM, isPartedM, h0, h1, h2, h3]
theorem three_perm {h1 h2 h3 : Nat} (b1 : h1 ≤ 3) (b2 : h2 ≤ 3) (b3 : h3 ≤ 3) (m1 : 1 ∈ [h1, h2, h3]) (m2 : 2 ∈ [h1, h2, h3]) (m3 : 3 ∈ [h1, h2, h3]) : [h1, h2, h3].Perm [1, 2, 3] := by
  have h : ((List.range 4).all fun a => (List.range 4).all fun b => (List.range 4).all fun c => !([a, b, c].contains 1 && [a, b, c].contains 2 && [a, b, c].contains 3) || [a, b, c].isPerm [1, 2, 3]) = true := by decide +kernel
  have q := List.all_eq_true.mp (List.all_eq_true.mp (List.all_eq_true.mp h h1 (List.mem_range.mpr (by omega))) h2 (List.mem_range.mpr (by omega))) h3 (List.mem_range.mpr (by omega))
  rw [List.contains_iff_mem.mpr m1, List.contains_iff_mem.mpr m2, List.contains_iff_mem.mpr m3] at q
  exact List.isPerm_iff.mp q
theorem hits_clash {p q r : List Nat} {x0 x1 x2 x3 : Nat} {ns : List Int} (a1 : x1 < x2) (a2 : x2 < x3) (hp : ns.Perm ([p, q, r].map fun s => (hitM s [x0, x1, x2, x3] : Int))) (hs : ns.Pairwise (· ≤ ·)) :
    decide (ns = [1, 2, 3]) = clashB [p, q, r] [x0, x1, x2, x3] := by
  obtain ⟨e1, b1⟩ := hit_partner p x0 x1 x2 x3
  obtain ⟨e2, b2⟩ := hit_partner q x0 x1 x2 x3
  obtain ⟨e3, b3⟩ := hit_partner r x0 x1 x2 x3
  unfold clashB
  refine decide_eq_decide.mpr ?_
  rw [List.map_cons, List.map_cons, List.map_cons, List.map_nil] at hp ⊢
  rw [e1, e2, e3]
  generalize hitM p [x0, x1, x2, x3] = h1 at *
  generalize hitM q [x0, x1, x2, x3] = h2 at *
  generalize hitM r [x0, x1, x2, x3] = h3 at *
  have tgt : (([x0, x1, x2, x3].drop 1).map fun c => [c]) = [1, 2, 3].map (gM [x0, x1, x2, x3]) := rfl
  rw [tgt]
  constructor
  · rintro rfl
    have mem : ∀ k : Nat, (k : Int) ∈ ([1, 2, 3] : List Int) → k ∈ [h1, h2, h3] := fun k hk => by
      have := hp.mem_iff.mp hk
      simp only [List.mem_cons, List.not_mem_nil, or_false] at this ⊢
      omega
    have pm := three_perm b1 b2 b3 (mem 1 (by decide)) (mem 2 (by decide)) (mem 3 (by decide))
    refine (srt_unique (pm.map (gM [x0, x1, x2, x3])).symm ?_).symm
    show [[x1], [x2], [x3]].Pairwise fun a b => leB a b = true
    simp [leB, ltCps]
    omega
  · intro e
    have pe : ([1, 2, 3].map (gM [x0, x1, x2, x3])).Perm [gM [x0, x1, x2, x3] h1, gM [x0, x1, x2, x3] h2, gM [x0, x1, x2, x3] h3] := by
      rw [← e]; exact srt_perm _
    have ginj : ∀ k h : Nat, h ≤ 3 → k ∈ [1, 2, 3] → gM [x0, x1, x2, x3] k = gM [x0, x1, x2, x3] h → k = h := by
      intro k h hh hk hg
      simp only [List.mem_cons, List.not_mem_nil, or_false] at hk
      have h4 : h = 0 ∨ h = 1 ∨ h = 2 ∨ h = 3 := by omega
      rcases hk with rfl | rfl | rfl <;> rcases h4 with rfl | rfl | rfl | rfl <;> simp [gM] at hg ⊢ <;> omega
    have mem : ∀ k : Nat, k ∈ [1, 2, 3] → k ∈ [h1, h2, h3] := fun k hk => by
      have := pe.mem_iff.mp (List.mem_map_of_mem (f := gM [x0, x1, x2, x3]) hk)
      simp only [List.mem_cons, List.not_mem_nil, or_false] at this ⊢
      rcases this with q | q | q
      · exact .inl (ginj k h1 b1 hk q)
      · exact .inr (.inl (ginj k h2 b2 hk q))
      · exact .inr (.inr (ginj k h3 b3 hk q))
    have pm := three_perm b1 b2 b3 (mem 1 (by decide)) (mem 2 (by decide)) (mem 3 (by decide))
    have pn : ns.Perm [1, 2, 3] := hp.trans (pm.map fun k : Nat => (k : Int))
    exact List.Perm.eq_of_pairwise (fun a b _ _ h1 h2 => Int.le_antisymm h1 h2) hs (by decide) pn
theorem comb_rise : ∀ (r : Nat) (l : List Nat), l.Pairwise (· < ·) → ∀ x ∈ combIx r l, x.Pairwise (· < ·)
  | 0, l, _, x, hx => by
    have : x = [] := by simpa [combIx] using hx
    rw [this]; exact List.Pairwise.nil
  | r + 1, [], _, x, hx => by simp [combIx] at hx
  | r + 1, a :: l, h, x, hx => by
    rw [List.pairwise_cons] at h
    rw [combIx, List.mem_append] at hx
    rcases hx with hx | hx
    · obtain ⟨y, hy, rfl⟩ := List.mem_map.mp hx
      exact List.pairwise_cons.mpr ⟨fun b hb => h.1 b (combIx_mem _ _ _ hy b hb), comb_rise r l h.2 y hy⟩
    · exact comb_rise (r + 1) l h.2 x hx
theorem foldl_mono4 : ∀ (l : List Nat) (acc : List (List Nat)), acc.length ≤ (l.foldl fourStep acc).length
  | [], _ => Nat.le_refl _
  | c :: l, acc => Nat.le_trans (by unfold fourStep; rw [List.length_append]; omega) (foldl_mono4 l _)
theorem four_take {l : List Nat} (h : l.length ≤ 7) (i : Nat) : (fourT (l.take i)).length < 100 := by
  have q := fourT_small h
  have : fourT l = (l.drop i).foldl fourStep (fourT (l.take i)) := by unfold fourT; rw [← List.foldl_append, List.take_append_drop]
  rw [this] at q
  exact Nat.lt_of_le_of_lt (foldl_mono4 _ _) q
def kindM (l p q : List Nat) (a b : Bool) : Bool := l.any fun c => (decide (c ∈ p) == a) && (decide (c ∈ q) == b)
theorem cross_kinds {l p q : List Nat} (hp : ∀ c ∈ p, c ∈ l) (hq : ∀ c ∈ q, c ∈ l) : crossM l p q = [kindM l p q true true, kindM l p q true false, kindM l p q false true, kindM l p q false false].all id := by
  have e1 : (p.any fun c => decide (c ∈ q)) = kindM l p q true true := by
    rw [Bool.eq_iff_iff]
    simp only [kindM, List.any_eq_true, decide_eq_true_eq, Bool.and_eq_true, beq_iff_eq]
    exact ⟨fun ⟨c, h1, h2⟩ => ⟨c, hp c h1, h1, h2⟩, fun ⟨c, _, h1, h2⟩ => ⟨c, h1, h2⟩⟩
  have e2 : (p.any fun c => decide (c ∈ otherM l q)) = kindM l p q true false := by
    rw [Bool.eq_iff_iff]
    simp only [kindM, otherM, List.any_eq_true, decide_eq_true_eq, Bool.and_eq_true, beq_iff_eq, List.mem_filter, Bool.not_eq_true', decide_eq_false_iff_not]
    exact ⟨fun ⟨c, h1, h2, h3⟩ => ⟨c, h2, h1, h3⟩, fun ⟨c, h0, h1, h2⟩ => ⟨c, h1, h0, h2⟩⟩
  have e3 : ((otherM l p).any fun c => decide (c ∈ q)) = kindM l p q false true := by
    rw [Bool.eq_iff_iff]
    simp only [kindM, otherM, List.any_eq_true, decide_eq_true_eq, Bool.and_eq_true, beq_iff_eq, List.mem_filter, Bool.not_eq_true', decide_eq_false_iff_not]
    exact ⟨fun ⟨c, ⟨h1, h2⟩, h3⟩ => ⟨c, h1, h2, h3⟩, fun ⟨c, h0, h1, h2⟩ => ⟨c, ⟨h0, h1⟩, h2⟩⟩
  have e4 : ((otherM l p).any fun c => decide (c ∈ otherM l q)) = kindM l p q false false := by
    rw [Bool.eq_iff_iff]
    simp only [kindM, otherM, List.any_eq_true, decide_eq_true_eq, Bool.and_eq_true, beq_iff_eq, List.mem_filter, Bool.not_eq_true', decide_eq_false_iff_not]
    exact ⟨fun ⟨c, ⟨h1, h2⟩, h3, h4⟩ => ⟨c, h1, h2, h4⟩, fun ⟨c, h0, h1, h2⟩ => ⟨c, ⟨h0, h1⟩, h0, h2⟩⟩
  unfold crossM crossBs
  simp only [List.flatMap_cons, List.flatMap_nil, List.map_cons, List.map_nil, List.append_nil, List.cons_append, List.nil_append]
  rw [e1, e2, e3, e4]
theorem any_perm {l m : List (List Nat)} (h : l.Perm m) (g : List Nat → Bool) : l.any g = m.any g := by
  rw [Bool.eq_iff_iff, List.any_eq_true, List.any_eq_true]
  exact ⟨fun ⟨x, h1, h2⟩ => ⟨x, h.mem_iff.mp h1, h2⟩, fun ⟨x, h1, h2⟩ => ⟨x, h.mem_iff.mpr h1, h2⟩⟩
theorem clash_four {l : List Nat} (h : l.length ≤ 7) (ps : List (List Nat)) : clashM l ps = (fourL l).any (clashB ps) := by
  rw [any_perm (four_comb h), clashM, List.any_map]; rfl
/-! ### what the defs are to do -/
def S_is_parted : MC := fun st ds Q => ∃ (p : List Nat) (a b : Nat), ds = [.str p, .str [a, b]] ∧ Q (.bl (isPartedM p a b)) st
def S_do_cross : MC := fun st ds Q => ∃ l p q : List Nat, ds = [.str l, .str p, .str q] ∧ l.length ≤ 1000 ∧ p.length ≤ 1000 ∧ q.length ≤ 1000 ∧ Q (.bl (crossM l p q)) st
def S_parts (C : Addr) : MC := fun st ds Q => ∃ (t : D) (l : List Nat) (far : Nat → Nat → Int) (p : List Nat) (a b : Nat), ds = [t, .str p, .str [a, b]] ∧ TabOk C st t l far ∧ isPartingM p l = true ∧ [a, b] ∈ combA 2 l ∧ Q (.bl (isPartedM p a b)) st
def S_cross (C : Addr) : MC := fun st ds Q => ∃ (t : D) (l : List Nat) (far : Nat → Nat → Int) (p q : List Nat), ds = [t, .str p, .str q] ∧ TabOk C st t l far ∧ isPartingM p l = true ∧ isPartingM q l = true ∧ Q (.bl (crossM l p q)) st
def S_partner : MC := fun st ds Q => ∃ p four : List Nat, ds = [.str p, .tup (sg four)] ∧ four.length = 4 ∧ Q (.str (partnerM p four)) st
def S_partners : MC := fun st ds Q => ∃ (ps : List (List Nat)) (four : List Nat), ds = [.tup (ps.map D.str), .tup (sg four)] ∧ ps.length ≤ 60 ∧ four.length = 4 ∧ Q (.lst ((srt (ps.map fun p => partnerM p four)).map D.str)) st
def S_do_clash : MC := fun st ds Q => ∃ (l : List Nat) (ps : List (List Nat)), ds = [.str l, .tup (ps.map D.str)] ∧ ps.length ≤ 60 ∧ isLotM l lettersL = true ∧ l.length ≤ 7 ∧ Q (.bl (clashM l ps)) st
def S_clash (C : Addr) : MC := fun st ds Q => ∃ (t : D) (l : List Nat) (far : Nat → Nat → Int) (p q r : List Nat), ds = [t, .str p, .str q, .str r] ∧ TabOk C st t l far ∧ isPartingM p l = true ∧ isPartingM q l = true ∧ isPartingM r l = true ∧ Q (.bl (clashM l [p, q, r])) st
def S_law_fours : MC := fun st ds Q => ∃ l : List Nat, ds = [.str l] ∧ l.length ≤ 7 ∧ Q (.lst ((fourL l).map D.str)) st
def S_law_do_cross : MC := fun st ds Q => ∃ l p q : List Nat, ds = [.str l, .str p, .str q] ∧ l.length ≤ 7 ∧ p.length ≤ 1000 ∧ q.length ≤ 1000 ∧ isPartingM p l = true ∧ isPartingM q l = true ∧ Q (.bl (crossM l p q)) st
def S_law_do_clash : MC := fun st ds Q => ∃ l p q r : List Nat, ds = [.str l, .lst [.str p, .str q, .str r]] ∧ l.length ≤ 7 ∧ isLotM l lettersL = true ∧ p.length ≤ 1000 ∧ q.length ≤ 1000 ∧ r.length ≤ 1000 ∧ Q (.bl (clashM l [p, q, r])) st
end Cd
set_option Elab.async false
set_option linter.all false
set_option maxRecDepth 100000
namespace K20d
open PySem PySem.Spec PyProof.Rows L2 Nf DL Nd
def top (i : Nat) : Stmt := PySem.Challenge.pw_nearandfar_k20_whole_partings_of_things.main.body.getD i (.Pass ⟨0, 0, 0, 0⟩)
abbrev s_wall : Stmt := top 1
abbrev N_wall : List Str := ["k"]
theorem sc_wall : FnScope N_wall ["k"] (defScope s_wall) := ⟨rfl, rfl, rfl, by decide +kernel, rfl, by decide +kernel, by decide +kernel⟩
abbrev s_InvalidText_init : Stmt := inClass (top 4) 0
abbrev N_InvalidText_init : List Str := ["self", "given"]
theorem sc_InvalidText_init : FnScope N_InvalidText_init ["self", "given"] (defScope s_InvalidText_init) := ⟨rfl, rfl, rfl, by decide +kernel, rfl, by decide +kernel, by decide +kernel⟩
abbrev s_InvalidThings_init : Stmt := inClass (top 5) 0
abbrev N_InvalidThings_init : List Str := ["self", "given"]
theorem sc_InvalidThings_init : FnScope N_InvalidThings_init ["self", "given"] (defScope s_InvalidThings_init) := ⟨rfl, rfl, rfl, by decide +kernel, rfl, by decide +kernel, by decide +kernel⟩
abbrev s_InvalidPair_init : Stmt := inClass (top 6) 0
abbrev N_InvalidPair_init : List Str := ["self", "given"]
theorem sc_InvalidPair_init : FnScope N_InvalidPair_init ["self", "given"] (defScope s_InvalidPair_init) := ⟨rfl, rfl, rfl, by decide +kernel, rfl, by decide +kernel, by decide +kernel⟩
abbrev s_InvalidParting_init : Stmt := inClass (top 7) 0
abbrev N_InvalidParting_init : List Str := ["self", "given"]
theorem sc_InvalidParting_init : FnScope N_InvalidParting_init ["self", "given"] (defScope s_InvalidParting_init) := ⟨rfl, rfl, rfl, by decide +kernel, rfl, by decide +kernel, by decide +kernel⟩
abbrev s_NotATable_init : Stmt := inClass (top 8) 0
abbrev N_NotATable_init : List Str := ["self", "given"]
theorem sc_NotATable_init : FnScope N_NotATable_init ["self", "given"] (defScope s_NotATable_init) := ⟨rfl, rfl, rfl, by decide +kernel, rfl, by decide +kernel, by decide +kernel⟩
abbrev s_InvalidDistances_init : Stmt := inClass (top 9) 0
abbrev N_InvalidDistances_init : List Str := ["self", "index"]
theorem sc_InvalidDistances_init : FnScope N_InvalidDistances_init ["self", "index"] (defScope s_InvalidDistances_init) := ⟨rfl, rfl, rfl, by decide +kernel, rfl, by decide +kernel, by decide +kernel⟩
abbrev s_is_integer : Stmt := top 19
abbrev N_is_integer : List Str := ["value"]
theorem sc_is_integer : FnScope N_is_integer ["value"] (defScope s_is_integer) := ⟨rfl, rfl, rfl, by decide +kernel, rfl, by decide +kernel, by decide +kernel⟩
abbrev s_is_integer_within : Stmt := top 20
abbrev N_is_integer_within : List Str := ["value", "least", "most"]
theorem sc_is_integer_within : FnScope N_is_integer_within ["value", "least", "most"] (defScope s_is_integer_within) := ⟨rfl, rfl, rfl, by decide +kernel, rfl, by decide +kernel, by decide +kernel⟩
abbrev s_is_lot : Stmt := top 21
abbrev N_is_lot : List Str := ["value", "letters", "letter"]
theorem sc_is_lot : FnScope N_is_lot ["value", "letters"] (defScope s_is_lot) := ⟨rfl, rfl, rfl, by decide +kernel, rfl, by decide +kernel, by decide +kernel⟩
abbrev s_is_pair : Stmt := top 22
abbrev N_is_pair : List Str := ["value", "letters"]
theorem sc_is_pair : FnScope N_is_pair ["value", "letters"] (defScope s_is_pair) := ⟨rfl, rfl, rfl, by decide +kernel, rfl, by decide +kernel, by decide +kernel⟩
abbrev s_is_parting : Stmt := top 23
abbrev N_is_parting : List Str := ["value", "things"]
theorem sc_is_parting : FnScope N_is_parting ["value", "things"] (defScope s_is_parting) := ⟨rfl, rfl, rfl, by decide +kernel, rfl, by decide +kernel, by decide +kernel⟩
abbrev s_check_things : Stmt := top 24
abbrev N_check_things : List Str := ["things"]
theorem sc_check_things : FnScope N_check_things ["things"] (defScope s_check_things) := ⟨rfl, rfl, rfl, by decide +kernel, rfl, by decide +kernel, by decide +kernel⟩
abbrev s_check_pair : Stmt := top 25
abbrev N_check_pair : List Str := ["things", "pair"]
theorem sc_check_pair : FnScope N_check_pair ["things", "pair"] (defScope s_check_pair) := ⟨rfl, rfl, rfl, by decide +kernel, rfl, by decide +kernel, by decide +kernel⟩
abbrev s_check_parting : Stmt := top 26
abbrev N_check_parting : List Str := ["things", "parting"]
theorem sc_check_parting : FnScope N_check_parting ["things", "parting"] (defScope s_check_parting) := ⟨rfl, rfl, rfl, by decide +kernel, rfl, by decide +kernel, by decide +kernel⟩
abbrev s_lots_of : Stmt := top 27
abbrev N_lots_of : List Str := ["letters", "least", "size", "lot"]
theorem sc_lots_of : FnScope N_lots_of ["letters", "least"] (defScope s_lots_of) := ⟨rfl, rfl, rfl, by decide +kernel, rfl, by decide +kernel, by decide +kernel⟩
abbrev s_pairs_of : Stmt := top 28
abbrev N_pairs_of : List Str := ["letters", "first", "second"]
theorem sc_pairs_of : FnScope N_pairs_of ["letters"] (defScope s_pairs_of) := ⟨rfl, rfl, rfl, by decide +kernel, rfl, by decide +kernel, by decide +kernel⟩
abbrev s_is_parted : Stmt := top 29
abbrev N_is_parted : List Str := ["parting", "pair"]
theorem sc_is_parted : FnScope N_is_parted ["parting", "pair"] (defScope s_is_parted) := ⟨rfl, rfl, rfl, by decide +kernel, rfl, by decide +kernel, by decide +kernel⟩
abbrev s_other_lot : Stmt := top 30
abbrev N_other_lot : List Str := ["things", "lot", "thing"]
theorem sc_other_lot : FnScope N_other_lot ["things", "lot"] (defScope s_other_lot) := ⟨rfl, rfl, rfl, by decide +kernel, rfl, by decide +kernel, by decide +kernel⟩
abbrev s_do_cross : Stmt := top 31
abbrev N_do_cross : List Str := ["things", "parting", "other_parting", "lots", "other_lots", "thing", "lot", "others"]
theorem sc_do_cross : FnScope N_do_cross ["things", "parting", "other_parting"] (defScope s_do_cross) := ⟨rfl, rfl, rfl, by decide +kernel, rfl, by decide +kernel, by decide +kernel⟩
abbrev s_both_ways : Stmt := top 32
abbrev N_both_ways : List Str := ["places", "rows", "lengths", "place", "pair", "length"]
theorem sc_both_ways : FnScope N_both_ways ["places", "rows"] (defScope s_both_ways) := ⟨rfl, rfl, rfl, by decide +kernel, rfl, by decide +kernel, by decide +kernel⟩
abbrev s_read_rows : Stmt := top 33
abbrev N_read_rows : List Str := ["text", "blank", "head", "lines", "rows", "line", "word", "_", "digits"]
theorem sc_read_rows : FnScope N_read_rows ["text", "blank"] (defScope s_read_rows) := ⟨rfl, rfl, rfl, by decide +kernel, rfl, by decide +kernel, by decide +kernel⟩
abbrev s_is_written_number : Stmt := top 34
abbrev N_is_written_number : List Str := ["word", "plain", "sign"]
theorem sc_is_written_number : FnScope N_is_written_number ["word"] (defScope s_is_written_number) := ⟨rfl, rfl, rfl, by decide +kernel, rfl, by decide +kernel, by decide +kernel⟩
abbrev s_written : Stmt := top 35
abbrev N_written : List Str := ["head", "rows", "word", "number"]
theorem sc_written : FnScope N_written ["head", "rows"] (defScope s_written) := ⟨rfl, rfl, rfl, by decide +kernel, rfl, by decide +kernel, by decide +kernel⟩
abbrev s_Table_init : Stmt := inClass (top 37) 0
abbrev N_Table_init : List Str := ["self", "things", "distances"]
theorem sc_Table_init : FnScope N_Table_init ["self", "things", "distances"] (defScope s_Table_init) := ⟨rfl, rfl, rfl, by decide +kernel, rfl, by decide +kernel, by decide +kernel⟩
abbrev s_Table_told : Stmt := inClass (top 37) 1
abbrev N_Table_told : List Str := ["cls", "text", "things", "distances"]
theorem sc_Table_told : FnScope N_Table_told ["cls", "text"] (defScope s_Table_told) := ⟨rfl, rfl, rfl, by decide +kernel, rfl, by decide +kernel, by decide +kernel⟩
abbrev s_Table_things : Stmt := inClass (top 37) 2
abbrev N_Table_things : List Str := ["self"]
theorem sc_Table_things : FnScope N_Table_things ["self"] (defScope s_Table_things) := ⟨rfl, rfl, rfl, by decide +kernel, rfl, by decide +kernel, by decide +kernel⟩
abbrev s_Table_distances : Stmt := inClass (top 37) 3
abbrev N_Table_distances : List Str := ["self"]
theorem sc_Table_distances : FnScope N_Table_distances ["self"] (defScope s_Table_distances) := ⟨rfl, rfl, rfl, by decide +kernel, rfl, by decide +kernel, by decide +kernel⟩
abbrev s_Table_str : Stmt := inClass (top 37) 4
abbrev N_Table_str : List Str := ["self"]
theorem sc_Table_str : FnScope N_Table_str ["self"] (defScope s_Table_str) := ⟨rfl, rfl, rfl, by decide +kernel, rfl, by decide +kernel, by decide +kernel⟩
abbrev s_Table_len : Stmt := inClass (top 37) 5
abbrev N_Table_len : List Str := ["self"]
theorem sc_Table_len : FnScope N_Table_len ["self"] (defScope s_Table_len) := ⟨rfl, rfl, rfl, by decide +kernel, rfl, by decide +kernel, by decide +kernel⟩
abbrev s_Table_eq : Stmt := inClass (top 37) 6
abbrev N_Table_eq : List Str := ["self", "other"]
theorem sc_Table_eq : FnScope N_Table_eq ["self", "other"] (defScope s_Table_eq) := ⟨rfl, rfl, rfl, by decide +kernel, rfl, by decide +kernel, by decide +kernel⟩
abbrev s_Table_far : Stmt := inClass (top 37) 7
abbrev N_Table_far : List Str := ["self", "thing", "other"]
theorem sc_Table_far : FnScope N_Table_far ["self", "thing", "other"] (defScope s_Table_far) := ⟨rfl, rfl, rfl, by decide +kernel, rfl, by decide +kernel, by decide +kernel⟩
abbrev s_Table_changed : Stmt := inClass (top 37) 8
abbrev N_Table_changed : List Str := ["self", "pair", "distance"]
theorem sc_Table_changed : FnScope N_Table_changed ["self", "pair", "distance"] (defScope s_Table_changed) := ⟨rfl, rfl, rfl, by decide +kernel, rfl, by decide +kernel, by decide +kernel⟩
abbrev s_Table_without : Stmt := inClass (top 37) 9
abbrev N_Table_without : List Str := ["self", "thing"]
theorem sc_Table_without : FnScope N_Table_without ["self", "thing"] (defScope s_Table_without) := ⟨rfl, rfl, rfl, by decide +kernel, rfl, by decide +kernel, by decide +kernel⟩
abbrev s_Table_grown : Stmt := inClass (top 37) 10
abbrev N_Table_grown : List Str := ["self", "letter", "row"]
theorem sc_Table_grown : FnScope N_Table_grown ["self", "letter", "row"] (defScope s_Table_grown) := ⟨rfl, rfl, rfl, by decide +kernel, rfl, by decide +kernel, by decide +kernel⟩
abbrev s_Table_renamed : Stmt := inClass (top 37) 11
abbrev N_Table_renamed : List Str := ["self", "letters"]
theorem sc_Table_renamed : FnScope N_Table_renamed ["self", "letters"] (defScope s_Table_renamed) := ⟨rfl, rfl, rfl, by decide +kernel, rfl, by decide +kernel, by decide +kernel⟩
abbrev s_is_distance : Stmt := top 38
abbrev N_is_distance : List Str := ["value"]
theorem sc_is_distance : FnScope N_is_distance ["value"] (defScope s_is_distance) := ⟨rfl, rfl, rfl, by decide +kernel, rfl, by decide +kernel, by decide +kernel⟩
abbrev s_is_entry : Stmt := top 39
abbrev N_is_entry : List Str := ["value", "pair"]
theorem sc_is_entry : FnScope N_is_entry ["value", "pair"] (defScope s_is_entry) := ⟨rfl, rfl, rfl, by decide +kernel, rfl, by decide +kernel, by decide +kernel⟩
abbrev s_check_distances : Stmt := top 40
abbrev N_check_distances : List Str := ["things", "distances", "fits", "pairs", "index", "entry"]
theorem sc_check_distances : FnScope N_check_distances ["things", "distances", "fits"] (defScope s_check_distances) := ⟨rfl, rfl, rfl, by decide +kernel, rfl, by decide +kernel, by decide +kernel⟩
abbrev s_check_table : Stmt := top 41
abbrev N_check_table : List Str := ["table"]
theorem sc_check_table : FnScope N_check_table ["table"] (defScope s_check_table) := ⟨rfl, rfl, rfl, by decide +kernel, rfl, by decide +kernel, by decide +kernel⟩
abbrev s_partings : Stmt := top 43
abbrev N_partings : List Str := ["table"]
theorem sc_partings : FnScope N_partings ["table"] (defScope s_partings) := ⟨rfl, rfl, rfl, by decide +kernel, rfl, by decide +kernel, by decide +kernel⟩
abbrev s_parts : Stmt := top 44
abbrev N_parts : List Str := ["table", "parting", "pair"]
theorem sc_parts : FnScope N_parts ["table", "parting", "pair"] (defScope s_parts) := ⟨rfl, rfl, rfl, by decide +kernel, rfl, by decide +kernel, by decide +kernel⟩
abbrev s_cross : Stmt := top 45
abbrev N_cross : List Str := ["table", "parting", "other_parting"]
theorem sc_cross : FnScope N_cross ["table", "parting", "other_parting"] (defScope s_cross) := ⟨rfl, rfl, rfl, by decide +kernel, rfl, by decide +kernel, by decide +kernel⟩
abbrev s_clash : Stmt := top 46
abbrev N_clash : List Str := ["table", "parting", "other_parting", "third_parting"]
theorem sc_clash : FnScope N_clash ["table", "parting", "other_parting", "third_parting"] (defScope s_clash) := ⟨rfl, rfl, rfl, by decide +kernel, rfl, by decide +kernel, by decide +kernel⟩
abbrev s_do_clash : Stmt := top 47
abbrev N_do_clash : List Str := ["things", "three", "four"]
theorem sc_do_clash : FnScope N_do_clash ["things", "three"] (defScope s_do_clash) := ⟨rfl, rfl, rfl, by decide +kernel, rfl, by decide +kernel, by decide +kernel⟩
abbrev s_partners : Stmt := top 48
abbrev N_partners : List Str := ["three", "four", "parting"]
theorem sc_partners : FnScope N_partners ["three", "four"] (defScope s_partners) := ⟨rfl, rfl, rfl, by decide +kernel, rfl, by decide +kernel, by decide +kernel⟩
abbrev s_partner : Stmt := top 49
abbrev N_partner : List Str := ["parting", "four", "beside", "thing"]
theorem sc_partner : FnScope N_partner ["parting", "four"] (defScope s_partner) := ⟨rfl, rfl, rfl, by decide +kernel, rfl, by decide +kernel, by decide +kernel⟩
abbrev s_law_urn : Stmt := top 51
abbrev N_law_urn : List Str := ["_law_cells", "_law_turn", "_law_seed", "_law_at", "_law_deep"]
theorem sc_law_urn : FnScope N_law_urn ["_law_cells", "_law_turn"] (defScope s_law_urn) := ⟨rfl, rfl, rfl, by decide +kernel, rfl, by decide +kernel, by decide +kernel⟩
abbrev s_law_cast : Stmt := top 52
abbrev N_law_cast : List Str := ["_law_urn_here", "_law_size", "_law_low"]
theorem sc_law_cast : FnScope N_law_cast ["_law_urn_here", "_law_size"] (defScope s_law_cast) := ⟨rfl, rfl, rfl, by decide +kernel, rfl, by decide +kernel, by decide +kernel⟩
abbrev s_law_pick : Stmt := top 53
abbrev N_law_pick : List Str := ["_law_urn_here", "_law_items"]
theorem sc_law_pick : FnScope N_law_pick ["_law_urn_here", "_law_items"] (defScope s_law_pick) := ⟨rfl, rfl, rfl, by decide +kernel, rfl, by decide +kernel, by decide +kernel⟩
abbrev s_law_shuffled : Stmt := top 54
abbrev N_law_shuffled : List Str := ["_law_urn_here", "_law_items", "_law_pool", "_law_row", "_law_turn"]
theorem sc_law_shuffled : FnScope N_law_shuffled ["_law_urn_here", "_law_items"] (defScope s_law_shuffled) := ⟨rfl, rfl, rfl, by decide +kernel, rfl, by decide +kernel, by decide +kernel⟩
abbrev s_law_names : Stmt := top 55
abbrev N_law_names : List Str := ["_law_urn_here", "_law_least", "_law_most", "_law_letters", "_law_many"]
theorem sc_law_names : FnScope N_law_names ["_law_urn_here", "_law_least", "_law_most"] (defScope s_law_names) := ⟨rfl, rfl, rfl, by decide +kernel, rfl, by decide +kernel, by decide +kernel⟩
abbrev s_law_twos : Stmt := top 56
abbrev N_law_twos : List Str := ["_law_names_here", "_law_row", "_law_at", "_law_mate"]
theorem sc_law_twos : FnScope N_law_twos ["_law_names_here"] (defScope s_law_twos) := ⟨rfl, rfl, rfl, by decide +kernel, rfl, by decide +kernel, by decide +kernel⟩
abbrev s_law_both : Stmt := top 57
abbrev N_law_both : List Str := ["_law_names_here", "_law_known", "_law_far", "_law_name", "_law_two"]
theorem sc_law_both : FnScope N_law_both ["_law_names_here", "_law_known"] (defScope s_law_both) := ⟨rfl, rfl, rfl, by decide +kernel, rfl, by decide +kernel, by decide +kernel⟩
abbrev s_law_made : Stmt := top 58
abbrev N_law_made : List Str := ["_law_names_here", "_law_far", "_law_two"]
theorem sc_law_made : FnScope N_law_made ["_law_names_here", "_law_far"] (defScope s_law_made) := ⟨rfl, rfl, rfl, by decide +kernel, rfl, by decide +kernel, by decide +kernel⟩
abbrev s_law_lots : Stmt := top 59
abbrev N_law_lots : List Str := ["_law_names_here", "_law_row", "_law_name", "_law_lot"]
theorem sc_law_lots : FnScope N_law_lots ["_law_names_here"] (defScope s_law_lots) := ⟨rfl, rfl, rfl, by decide +kernel, rfl, by decide +kernel, by decide +kernel⟩
abbrev s_law_splits : Stmt := top 60
abbrev N_law_splits : List Str := ["_law_lot", "_law_two"]
theorem sc_law_splits : FnScope N_law_splits ["_law_lot", "_law_two"] (defScope s_law_splits) := ⟨rfl, rfl, rfl, by decide +kernel, rfl, by decide +kernel, by decide +kernel⟩
abbrev s_law_summed : Stmt := top 61
abbrev N_law_summed : List Str := ["_law_names_here", "_law_marks", "_law_lot", "_law_size", "_law_two"]
theorem sc_law_summed : FnScope N_law_summed ["_law_names_here", "_law_marks"] (defScope s_law_summed) := ⟨rfl, rfl, rfl, by decide +kernel, rfl, by decide +kernel, by decide +kernel⟩
abbrev s_law_shortened : Stmt := top 62
abbrev N_law_shortened : List Str := ["_law_names_here", "_law_far", "_law_middle", "_law_one", "_law_two"]
theorem sc_law_shortened : FnScope N_law_shortened ["_law_names_here", "_law_far"] (defScope s_law_shortened) := ⟨rfl, rfl, rfl, by decide +kernel, rfl, by decide +kernel, by decide +kernel⟩
abbrev s_law_world : Stmt := top 63
abbrev N_law_world : List Str := ["_law_urn_here", "_law_least", "_law_most", "_law_names_here", "_law_way", "_law_top", "_law_row", "_law_known", "_law_two", "_law_marks", "_law_turn", "_law_begin", "_law_end"]
theorem sc_law_world : FnScope N_law_world ["_law_urn_here", "_law_least", "_law_most"] (defScope s_law_world) := ⟨rfl, rfl, rfl, by decide +kernel, rfl, by decide +kernel, by decide +kernel⟩
abbrev s_law_fours : Stmt := top 64
abbrev N_law_fours : List Str := ["_law_names_here", "_law_lots_here", "_law_name", "_law_lot"]
theorem sc_law_fours : FnScope N_law_fours ["_law_names_here"] (defScope s_law_fours) := ⟨rfl, rfl, rfl, by decide +kernel, rfl, by decide +kernel, by decide +kernel⟩
abbrev s_law_do_clash : Stmt := top 65
abbrev N_law_do_clash : List Str := ["_law_names_here", "_law_lots_here", "_law_four", "_law_hits", "_law_lot", "_law_inside", "_law_name", "_law_mates", "_law_k"]
theorem sc_law_do_clash : FnScope N_law_do_clash ["_law_names_here", "_law_lots_here"] (defScope s_law_do_clash) := ⟨rfl, rfl, rfl, by decide +kernel, rfl, by decide +kernel, by decide +kernel⟩
abbrev s_law_heard : Stmt := top 66
abbrev N_law_heard : List Str := ["_law_act", "_law_back"]
theorem sc_law_heard : FnScope N_law_heard ["_law_act"] (defScope s_law_heard) := ⟨rfl, rfl, rfl, by decide +kernel, rfl, by decide +kernel, by decide +kernel⟩
abbrev s_law_do_cross : Stmt := top 67
abbrev N_law_do_cross : List Str := ["_law_names_here", "_law_one", "_law_two", "_law_kinds", "_law_name", "_law_kind"]
theorem sc_law_do_cross : FnScope N_law_do_cross ["_law_names_here", "_law_one", "_law_two"] (defScope s_law_do_cross) := ⟨rfl, rfl, rfl, by decide +kernel, rfl, by decide +kernel, by decide +kernel⟩
abbrev s_law_right : Stmt := top 68
abbrev N_law_right : List Str := ["_law_urn_here", "_law_turn", "_law_names_here", "_law_far", "_law_held", "_law_lots_here", "_law_back", "_law_lot", "_law_two", "_law_mate", "_law_again", "_law_one", "_law_three"]
theorem sc_law_right : FnScope N_law_right ["_law_urn_here"] (defScope s_law_right) := ⟨rfl, rfl, rfl, by decide +kernel, rfl, by decide +kernel, by decide +kernel⟩
abbrev s_law : Stmt := top 69
abbrev N_law : List Str := ["_law_script", "_law_turn"]
theorem sc_law : FnScope N_law ["_law_script"] (defScope s_law) := ⟨rfl, rfl, rfl, by decide +kernel, rfl, by decide +kernel, by decide +kernel⟩
structure Txt (K : PySem.W.Frag) (mg : Str → Option Value) (C : Addr) : Prop where
  cl : Cls K C
  is_Table : IsC K C
  n_things : NoAttr K C "_things"
  n_distances : NoAttr K C "_distances"
  n_lengths : NoAttr K C "_lengths"
  g_LETTERS : ∃ t, mg "LETTERS" = some (.str (tx lettersL) t)
  g_LEAST_THINGS : ∃ t, mg "LEAST_THINGS" = some (.int 2 t)
  g_MOST_THINGS : ∃ t, mg "MOST_THINGS" = some (.int 7 t)
  g_MOST_DISTANCE : ∃ t, mg "MOST_DISTANCE" = some (.int 1000000 t)
  g_Table : mg "Table" = some (.ref C)
  combinations : mg "combinations" = some (.type "itertools.combinations")
  isinstance : mg "isinstance" = none
  len : mg "len" = none
  int : mg "int" = none
  bool : mg "bool" = none
  str : mg "str" = none
  tuple : mg "tuple" = none
  list : mg "list" = none
  dict : mg "dict" = none
  range : mg "range" = none
  enumerate : mg "enumerate" = none
  sorted : mg "sorted" = none
  any : mg "any" = none
  all : mg "all" = none
  min : mg "min" = none
  max : mg "max" = none
  abs : mg "abs" = none
  sum : mg "sum" = none
  divmod : mg "divmod" = none
  repr : mg "repr" = none
end K20d
set_option Elab.async false
set_option linter.all false
set_option maxRecDepth 100000
set_option maxHeartbeats 4000000
/-! a law's own asking: the urn moves, cells come behind, tables of code stay -/
namespace Hd
open PySem PySem.Spec PyProof.Rows L2 Nf DL Nd Pd Ld
/-- what stands between two statements -/
theorem seq_rel {m m' : MS} {ρ : DL.Env} {st : Store} {De : DEnds} (R : DL.Env → Store → Prop) (h2 : ∀ ρ1 st1, R ρ1 st1 → m' ρ1 st1 De) (h1 : ∀ N : QE, (∀ ρ1 st1, R ρ1 st1 → N ρ1 st1) → m ρ st { De with nx := N }) : sSeq m m' ρ st De := h1 _ h2
def NoTab (ex : Store) : Prop := ∀ c ∈ ex, ∀ P q, c ≠ .tab P q
/-- from st0 on the urn has moved, and cells without tables have come behind -/
def RS (st0 : Store) (u : Nat) (st : Store) : Prop := ∃ st1 ex, Drew st0 u st1 ∧ st = st1 ++ ex ∧ NoTab ex
theorem RS.refl {st0 : Store} {u : Nat} (h : urnAt st0 u) : RS st0 u st0 := ⟨st0, [], .refl h, by simp, fun c hc => by cases hc⟩
theorem RS.urn {st0 st : Store} {u : Nat} (r : RS st0 u st) (h : urnAt st0 u) : urnAt st u := by
  obtain ⟨st1, ex, d, rfl, _⟩ := r
  exact (h.drew d).ext ex
theorem RS.draw {st0 st st' : Store} {u : Nat} (r : RS st0 u st) (h : urnAt st0 u) (d : Drew st u st') : RS st0 u st' := by
  obtain ⟨st1, ex, d1, rfl, n⟩ := r
  obtain ⟨st2, d2, rfl⟩ := Drew.ext (h.drew d1) d
  exact ⟨st2, ex, d1.trans d2, rfl, n⟩
theorem RS.add {st0 st : Store} {u : Nat} (r : RS st0 u st) (xs : List D) : RS st0 u (st ++ [.lst xs]) := by
  obtain ⟨st1, ex, d1, rfl, n⟩ := r
  refine ⟨st1, ex ++ [.lst xs], d1, by rw [List.append_assoc], fun c hc P q e => ?_⟩
  rcases List.mem_append.mp hc with hc | hc
  · exact n c hc P q e
  · rw [List.mem_singleton.mp hc] at e; cases e
theorem RS.tabs {st0 st : Store} {u : Nat} {T : List (Addr × Str)} (r : RS st0 u st) (h : urnAt st0 u) (t : TabsIn T st0) : TabsIn T st := by
  obtain ⟨st1, ex, d1, rfl, n⟩ := r
  have hu := h
  obtain ⟨a, b, hu1, _⟩ := hu
  refine ⟨fun i P q hi => ?_, fun p hp => ?_⟩
  · by_cases hl : i < st1.length
    · rw [List.getElem?_append_left hl] at hi
      by_cases e : i = u
      · subst e
        obtain ⟨a', b', h1, _⟩ := h.drew d1
        rw [h1] at hi; cases hi
      · rw [d1.other e] at hi
        exact t.1 i P q hi
    · rw [List.getElem?_append_right (by omega)] at hi
      exact absurd rfl (n _ (List.mem_of_getElem? hi) P q)
  · obtain ⟨i, hi⟩ := t.2 p hp
    have e : i ≠ u := fun z => by rw [z, hu1] at hi; cases hi
    refine ⟨i, ext_at ?_⟩
    rw [d1.other e]; exact hi
theorem RS.exit {st0 st : Store} {u : Nat} {Qd : QD} {d : D} (r : RS st0 u st) (h : pl d = true) (k : ∀ st', Drew st0 u st' → Qd d st') : exitF st0 Qd d st := by
  obtain ⟨st1, ex, d1, rfl, n⟩ := r
  exact exit_drew ex h d1 (k _ d1)
def told (d : D) : D := .lst [.str toldL, d]
def backD (d1 d2 : D) : D := .lst [told d1, told d2]
/-- back = [heard(..)]; back.append(heard(..)) -/
theorem back2 {T : List (Addr × Str)} {m1 m2 : ME} {rest : MS} {ρ : DL.Env} {st : Store} {De : DEnds} {d1 d2 : D} {i : Nat} (hi : i < ρ.length) (t1 : TabsIn T st) (t2 : TabsIn T (st ++ [.lst [told d1]]))
    (b1 : ∀ Q : QD, Q d1 st → m1 ρ st Q) (b2 : ∀ Q : QD, Q d2 (st ++ [.lst [told d1]]) → m2 (ρ.set i (some (.cel st.length))) (st ++ [.lst [told d1]]) Q)
    (k : rest (ρ.set i (some (.cel st.length))) (st ++ [.lst [told d1, told d2]]) De) :
    sSeq (sAsg (mLstC (mCons (mHeard T m1) mNil)) (gNm i)) (sSeq (sDrop (mApp (mNm i) (mHeard T m2))) rest) ρ st De := by
  have gi : (ρ.set i (some (D.cel st.length)))[i]? = some (some (.cel st.length)) := List.getElem?_set_self hi
  refine ⟨t1, b1 _ ?_⟩
  refine ⟨by show 1 ≤ 1000000; decide, ?_⟩
  dsimp only [gNm, sSeq, sDrop, mApp, mNm]
  rw [gi]
  refine isCel_of (last_at _ _) ?_
  refine ⟨t2, b2 _ ?_⟩
  refine isCel_of (last_at _ _) ⟨by show 1 < 1000000; decide, ?_⟩
  rw [set_last]
  exact k
theorem okL_told : okL toldL := by unfold okL toldL; decide
theorem SxD.told {dep wt : Nat} {d : D} (h : SxD dep wt d) (hw : 4 ≤ wt) : SxD (dep + 1) (2 * (wt + 1)) (told d) := by
  have := SxD.lst (ds := [.str toldL, d]) (dep := dep) (wt := wt) fun x hx => by
    simp only [List.mem_cons, List.not_mem_nil, or_false] at hx
    rcases hx with rfl | rfl
    · exact (SxD.str okL_told).mono (by omega) (Nat.le_trans (by decide) hw)
    · exact h
  exact this
theorem SxD.back {dep wt : Nat} {d1 d2 : D} (h1 : SxD dep wt d1) (h2 : SxD dep wt d2) (hw : 4 ≤ wt) : SxD (dep + 2) (2 * (2 * (wt + 1) + 1)) (backD d1 d2) := by
  refine SxD.lst (ds := [Hd.told d1, Hd.told d2]) (dep := dep + 1) (wt := 2 * (wt + 1)) fun x hx => ?_
  simp only [List.mem_cons, List.not_mem_nil, or_false] at hx
  rcases hx with rfl | rfl
  · exact SxD.told h1 hw
  · exact SxD.told h2 hw
/-- if repr(back) != repr(RIGHT): return False -/
theorem reprs {m : ME} {ρ : DL.Env} {st : Store} {De : DEnds} {d1 d2 : D} {i dep wt : Nat} (h1 : SxD dep wt d1) (h2 : SxD dep wt d2) (hw : 4 ≤ wt) (hd : dep ≤ 58) (hw2 : 2 * (2 * (wt + 1) + 1) ≤ 1048576)
    (gi : ρ[i]? = some (some (.cel st.length))) (b : ∀ Q : QD, Q (backD d1 d2) (st ++ [.lst [told d1, told d2]]) → m ρ (st ++ [.lst [told d1, told d2]]) Q)
    (k : De.nx ρ (st ++ [.lst [told d1, told d2]])) :
    sIf (mTv (mBin oNe (mCall cRepr (mCons (mNm i) mNil)) (mCall cRepr (mCons m mNil)))) (sRet (mC (D.bl false))) sNext ρ (st ++ [.lst [told d1, told d2]]) De := by
  have hs := SxD.back h1 h2 hw
  show mNm i ρ (st ++ [.lst [told d1, told d2]]) _
  unfold mNm
  rw [gi]
  have hdr : dr (st ++ [.lst [told d1, told d2]]) (.cel st.length) = backD d1 d2 := dr_of (last_at _ _)
  refine cRepr_of (dep := dep + 2) (wt := 2 * (2 * (wt + 1) + 1)) rfl (by rw [hdr]; exact hs) (by omega) hw2 ?_
  rw [hdr]
  refine b _ ?_
  dsimp only [mNil]
  refine cRepr_of (d := backD d1 d2) (dep := dep + 2) (wt := 2 * (2 * (wt + 1) + 1)) rfl hs (by omega) hw2 ?_
  rw [oNe_ss]
  show if (!decide ((py (backD d1 d2)).shown.cps.toList = (py (backD d1 d2)).shown.cps.toList)) = true then _ else _
  rw [decide_eq_true rfl]
  exact k
/-- [['told', RIGHT]] * 2 -/
theorem twice {m : ME} {ρ : DL.Env} {st : Store} {d : D} {Q : QD} (b : ∀ Q : QD, Q d st → m ρ st Q) (q : Q (backD d d) st) : mBin oMul (mLst (mCons (mLst (mCons (mC (.str toldL)) (mCons m mNil))) mNil)) (mC (.int 2)) ρ st Q := by
  show m ρ st _
  refine b _ ?_
  refine ⟨by show 2 ≤ 1000000; decide, by show 1 ≤ 1000000; decide, ?_⟩
  exact ⟨⟨by decide, by decide, by show 1 * 2 ≤ 1000000; decide⟩, q⟩
/-- one thing asked twice and held against what is right -/
theorem asked {T : List (Addr × Str)} {m1 m2 m3 : ME} {ρ : DL.Env} {st : Store} {De : DEnds} {d : D} {i dep wt : Nat} (hi : i < ρ.length) (h1 : SxD dep wt d) (hw : 4 ≤ wt) (hd : dep ≤ 58) (hw2 : 2 * (2 * (wt + 1) + 1) ≤ 1048576) (t : ∀ xs, TabsIn T st ∧ TabsIn T (st ++ [.lst xs]))
    (b1 : ∀ Q : QD, Q d st → m1 ρ st Q) (b2 : ∀ Q : QD, Q d (st ++ [.lst [told d]]) → m2 (ρ.set i (some (.cel st.length))) (st ++ [.lst [told d]]) Q)
    (b3 : ∀ Q : QD, Q d (st ++ [.lst [told d, told d]]) → m3 (ρ.set i (some (.cel st.length))) (st ++ [.lst [told d, told d]]) Q)
    (k : De.nx (ρ.set i (some (.cel st.length))) (st ++ [.lst [told d, told d]])) :
    sSeq (sAsg (mLstC (mCons (mHeard T m1) mNil)) (gNm i)) (sSeq (sDrop (mApp (mNm i) (mHeard T m2)))
      (sIf (mTv (mBin oNe (mCall cRepr (mCons (mNm i) mNil)) (mCall cRepr (mCons (mBin oMul (mLst (mCons (mLst (mCons (mC (.str toldL)) (mCons m3 mNil))) mNil)) (mC (.int 2))) mNil)))) (sRet (mC (D.bl false))) sNext)) ρ st De :=
  back2 hi (t []).1 (t _).2 b1 b2 (reprs h1 h1 hw hd hw2 (List.getElem?_set_self hi) (fun Q q => twice b3 q) k)
end Hd
set_option Elab.async false
set_option linter.all false
set_option maxRecDepth 100000
set_option maxHeartbeats 4000000
namespace K20d
open PySem PySem.Spec PyProof.Rows L2 Nf DL Pd Nd Ld Cd Hd
section
variable {P : Program} {w : World} {K : PySem.W.Frag} {mg : Str → Option Value} {base : Heap} {C : Addr} {f : Addr} {fd : FuncData}
theorem ok_is_integer (F : Fun K "is_integer" "is_integer" s_is_integer f fd) (T : Txt K mg C)  : FnOk P w K mg base CX0 1 f fd ["value"] (spD K 1 S_is_integer) := by
  refine fnF F sc_is_integer (fun cdv A outer s H E hr => (dss_one (ds_ret (de_and (de_isi (t := "int") T.isinstance (dv 0) T.int) (de_one (de_not (de_isi (t := "bool") T.isinstance (dv 0) T.bool))))))) ?_
  rintro st0 ds Qd _ ⟨i, rfl, k⟩
  exact exit_pl rfl k
theorem ok_is_integer_within (F : Fun K "is_integer_within" "is_integer_within" s_is_integer_within f fd) (T : Txt K mg C) (C_is_integer : CanD P w K mg base 1 "is_integer" s_is_integer ["value"] S_is_integer) : FnOk P w K mg base CX0 2 f fd ["value", "least", "most"] (spD K 3 S_is_integer_within) := by
  refine fnF F sc_is_integer_within (fun cdv A outer s H E hr => (dss_one (ds_ret (de_and (de_fn C_is_integer (hr.mono (by decide)) (da_cons (dv 0) da_nil)) (de_one (de_chain do_le do_le (dv 1) (dv 0) (dv 2))))))) ?_
  rintro st0 ds Qd _ ⟨v, a, b, rfl, k⟩
  exact ⟨rfl, v, rfl, and_ite (Q := fun d => exitF st0 Qd d st0) (exit_pl rfl k)⟩
theorem ok_is_lot (F : Fun K "is_lot" "is_lot" s_is_lot f fd) (T : Txt K mg C)  : FnOk P w K mg base CX0 1 f fd ["value", "letters"] (spD K 2 S_is_lot) := by
  refine fnF F sc_is_lot (fun cdv A outer s H E hr => (dss_one (ds_ret (de_and (de_isi (t := "str") T.isinstance (dv 0) T.str) (de_one (de_cmp (do_eq (K := K) hr.units) (dv 0) (de_join de_str (de_lc (own := [("letter", 2)]) rfl sc_is_lot.nd (di_seq (dv 1)) (blkOk_by (own := [("letter", 2)]) (N := N_is_lot) (sc := defScope s_is_lot) (by decide +kernel)) (tof_nm (i := 2)) (fun _ _ _ _ _ => (pg_name (i := 2) sc_is_lot.nd rfl (Or.inl rfl) (Or.inr rfl))) (fun _ _ _ _ _ => (dts_one (dt_cmp (do_in (K := K) (hu1 hr)) (dv 2) (dv 0) (by with_unfolding_all rfl)))) (fun _ _ _ _ _ => (dv 2)))) (nomark _))))))) ?_
  rintro st0 ds Qd _ ⟨v, l, rfl, hl, k⟩
  refine ⟨by rw [List.length_map]; omega, ?_⟩
  refine lcD_pf (p := fun c => false != decide (c ∈ v)) (f := fun c => D.str [c]) (fun c hc K1 K0 q => q) trivial ?_
  rw [fbne]
  refine join_sg (Nat.le_trans (List.length_filter_le _ _) hl) ?_
  exact exit_pl rfl k
theorem ok_is_pair (F : Fun K "is_pair" "is_pair" s_is_pair f fd) (T : Txt K mg C) (C_is_lot : CanD P w K mg base 1 "is_lot" s_is_lot ["value", "letters"] S_is_lot) : FnOk P w K mg base CX0 2 f fd ["value", "letters"] (spD K 2 S_is_pair) := by
  refine fnF F sc_is_pair (fun cdv A outer s H E hr => (dss_one (ds_ret (de_and (de_fn C_is_lot (hr.mono (by decide)) (da_cons (dv 0) (da_cons (dv 1) da_nil))) (de_one (de_cmp (do_eq (K := K) hr.units) (de_callB (dc_len (K := K)) T.len (da_cons (dv 0) da_nil)) de_int (nomark _))))))) ?_
  rintro st0 ds Qd _ ⟨v, l, rfl, hl, hv, k⟩
  have k' : Qd (.bl (isLotM v l && decide (v.length = 2))) st0 := k
  refine ⟨rfl, v, l, rfl, hl, ?_⟩
  refine and_iteL (Q := fun d => exitF st0 Qd d st0) (exit_pl rfl k') fun q => ?_
  refine ⟨by omega, ?_⟩
  rw [← intEq] at q
  exact q
theorem ok_is_parting (F : Fun K "is_parting" "is_parting" s_is_parting f fd) (T : Txt K mg C) (C_is_lot : CanD P w K mg base 1 "is_lot" s_is_lot ["value", "letters"] S_is_lot) : FnOk P w K mg base CX0 2 f fd ["value", "things"] (spD K 2 S_is_parting) := by
  refine fnF F sc_is_parting (fun cdv A outer s H E hr => (dss_one (ds_ret (de_and (de_fn C_is_lot (hr.mono (by decide)) (da_cons (dv 0) (da_cons (de_sl (dv 1) (dp_so de_int) dp_no) da_nil))) (de_one (de_cmp do_gt (de_callB (dc_len (K := K)) T.len (da_cons (dv 0) da_nil)) de_int (nomark _))))))) ?_
  rintro st0 ds Qd _ ⟨v, l, rfl, hl, hv, k⟩
  refine ⟨by omega, rfl, v, l.drop 1, ?_, by rw [List.length_drop]; omega, ?_⟩
  · rw [cut_one]
  refine and_iteL (Q := fun d => exitF st0 Qd d st0) (exit_pl rfl k) fun q => ?_
  refine ⟨by omega, ?_⟩
  rw [← intLt] at q
  exact q
theorem ok_check_things (F : Fun K "check_things" "check_things" s_check_things f fd) (T : Txt K mg C) (C_is_lot : CanD P w K mg base 1 "is_lot" s_is_lot ["value", "letters"] S_is_lot) : FnOk P w K mg base CX0 2 f fd ["things"] (spD K 1 S_check_things) := by
  refine fnF F sc_check_things (fun cdv A outer s H E hr => (dss_one (ds_if (dt_not (PW.pt (dw_and (dt_val (de_fn C_is_lot (hr.mono (by decide)) (da_cons (dv 0) (da_cons (de_gS T.g_LETTERS) da_nil)))) (dw_and1 (dt_chain do_le do_le (de_gI T.g_LEAST_THINGS) (de_callB (dc_len (K := K)) T.len (da_cons (dv 0) da_nil)) (de_gI T.g_MOST_THINGS)))))) (dss_one ds_never) dss_nil))) ?_
  rintro st0 ds Qd _ ⟨l, rfl, h1, h2, h3, k⟩
  refine ⟨rfl, l, lettersL, rfl, by decide, ?_⟩
  show if isLotM l lettersL = true then _ else _
  rw [if_pos h1]
  refine ⟨by omega, ?_⟩
  have e2 : decide ((2 : Int) ≤ (l.length : Int)) = true := decide_eq_true (by omega)
  have e3 : decide ((l.length : Int) ≤ (7 : Int)) = true := decide_eq_true (by omega)
  show if decide ((2 : Int) ≤ (l.length : Int)) = true then _ else _
  rw [if_pos e2]
  show if (!decide ((l.length : Int) ≤ (7 : Int))) = true then _ else _
  rw [e3]
  exact exit_pl rfl k
theorem ok_check_pair (F : Fun K "check_pair" "check_pair" s_check_pair f fd) (T : Txt K mg C) (C_is_pair : CanD P w K mg base 2 "is_pair" s_is_pair ["value", "letters"] S_is_pair) : FnOk P w K mg base CX0 3 f fd ["things", "pair"] (spD K 2 S_check_pair) := by
  refine fnF F sc_check_pair (fun cdv A outer s H E hr => (dss_one (ds_if (dt_not (dt_val (de_fn C_is_pair (hr.mono (by decide)) (da_cons (dv 1) (da_cons (dv 0) da_nil))))) (dss_one ds_never) dss_nil))) ?_
  rintro st0 ds Qd _ ⟨l, v, rfl, hl, hv, hp, k⟩
  refine ⟨rfl, v, l, rfl, hl, hv, ?_⟩
  show if (!isPairM v l) = true then _ else _
  rw [hp]
  exact exit_pl rfl k
theorem ok_check_parting (F : Fun K "check_parting" "check_parting" s_check_parting f fd) (T : Txt K mg C) (C_is_parting : CanD P w K mg base 2 "is_parting" s_is_parting ["value", "things"] S_is_parting) : FnOk P w K mg base CX0 3 f fd ["things", "parting"] (spD K 2 S_check_parting) := by
  refine fnF F sc_check_parting (fun cdv A outer s H E hr => (dss_one (ds_if (dt_not (dt_val (de_fn C_is_parting (hr.mono (by decide)) (da_cons (dv 1) (da_cons (dv 0) da_nil))))) (dss_one ds_never) dss_nil))) ?_
  rintro st0 ds Qd _ ⟨l, v, rfl, hl, hv, hp, k⟩
  refine ⟨rfl, v, l, rfl, hl, hv, ?_⟩
  show if (!isPartingM v l) = true then _ else _
  rw [hp]
  exact exit_pl rfl k
theorem ok_lots_of (F : Fun K "lots_of" "lots_of" s_lots_of f fd) (T : Txt K mg C)  : FnOk P w K mg base CX0 1 f fd ["letters", "least"] (spD K 2 S_lots_of) := by
  refine fnF F sc_lots_of (fun cdv A outer s H E hr => (dss_one (ds_ret (de_callB (dc_sorted (K := K)) T.sorted (da_cons (de_lc2 (own := [("size", 2), ("lot", 3)]) (vs1 := [3]) rfl sc_lots_of.nd (di_range2 T.range (dv 1) (de_bin (do_add (K := K)) (de_callB (dc_len (K := K)) T.len (da_cons (dv 0) da_nil)) de_int)) (blkOk_by (own := [("size", 2), ("lot", 3)]) (N := N_lots_of) (sc := defScope s_lots_of) (by decide +kernel)) (tof_nm (i := 2)) (tof_nm (i := 3)) (by decide) (fun _ _ _ _ _ => (pg_name (i := 2) sc_lots_of.nd rfl (Or.inl rfl) (Or.inr rfl))) (fun _ _ _ _ _ => dts_nil) (fun _ _ _ _ _ => (di_comb rfl T.combinations (dv 0) (dv 2))) (fun _ _ _ _ _ => (pg_name (i := 3) sc_lots_of.nd rfl (Or.inl rfl) (Or.inr rfl))) (fun _ _ _ _ _ => dts_nil) (fun _ _ _ _ _ => (de_join de_str (dv 3)))) da_nil))))) ?_
  rintro st0 ds Qd _ ⟨l, rfl, hl, k⟩
  refine ⟨by omega, ⟨by omega, by omega, by omega, by omega⟩, by rw [rngD_len]; omega, ?_⟩
  have en : ((l.length : Int) + 1 - 1).toNat = l.length := by omega
  refine lcD2_m (l := List.range ((l.length : Int) + 1 - 1).toNat) (e := fun (i : Nat) => D.int (1 + i)) (F := fun i => (combA (i + 1) l).map D.str) (fun i hi KK q => ?_) trivial ?_
  · have hi : i < l.length := by have := List.mem_range.mp hi; omega
    refine ⟨⟨by rw [List.length_map]; omega, by omega, by omega⟩, ?_⟩
    have e1 : ((1 : Int) + (i : Nat)).toNat = i + 1 := by omega
    rw [e1, combA_map, List.map_map]
    refine ⟨by rw [List.length_map]; exact Nat.le_trans (comb_le (by omega) (by omega)) (by decide), ?_⟩
    refine lcD_m (f := D.str) (fun r hr K1 q => ?_) trivial q
    have := combA_mem _ _ _ hr
    exact join_tup (by rw [this.1]; omega) q
  · have e : ((List.range l.length).map fun i => (combA (i + 1) l).map D.str).flatten = (lotsL l).map D.str := by
      unfold lotsL
      rw [List.map_flatMap, List.flatMap_def]
      congr 1
      refine List.map_congr_left fun i _ => ?_
      rw [combIx_A]
    rw [en, e]
    refine cSorted_strs (lots_small hl) ?_
    exact exit_pl (pl_strs _) k
theorem ok_pairs_of (F : Fun K "pairs_of" "pairs_of" s_pairs_of f fd) (T : Txt K mg C)  : FnOk P w K mg base CX0 1 f fd ["letters"] (spD K 1 S_pairs_of) := by
  refine fnF F sc_pairs_of (fun cdv A outer s H E hr => (dss_one (ds_ret (de_lc (own := [("first", 1), ("second", 2)]) rfl sc_pairs_of.nd (di_comb rfl T.combinations (dv 0) de_int) (blkOk_by (own := [("first", 1), ("second", 2)]) (N := N_pairs_of) (sc := defScope s_pairs_of) (by decide +kernel)) (tof_tup1 (n := 2) (tofs_cons (i := 1) (tofs_cons (i := 2) tofs_nil))) (fun _ _ _ _ _ => (dg_tupG (K := K) (n := 2) rfl (pgs_cons (pg_name (i := 1) sc_pairs_of.nd rfl (Or.inl rfl) (Or.inr rfl)) (pgs_cons (pg_name (i := 2) sc_pairs_of.nd rfl (Or.inl rfl) (Or.inr rfl)) pgs_nil)))) (fun _ _ _ _ _ => dts_nil) (fun _ _ _ _ _ => (de_bin (do_add (K := K)) (dv 1) (dv 2))))))) ?_
  rintro st0 ds Qd _ ⟨l, rfl, hl, k⟩
  refine ⟨⟨by rw [List.length_map]; omega, by decide, by decide⟩, ?_⟩
  rw [combA_map, List.map_map]
  refine ⟨by rw [List.length_map]; exact Nat.le_trans (comb_le hl) (by decide), ?_⟩
  refine lcD_m (f := D.str) (fun r hr K1 q => ?_) trivial ?_
  · obtain ⟨a, b, rfl, _, _⟩ := comb2_pair hr
    exact ⟨rfl, by show 1 + 1 ≤ 1000000; decide, q⟩
  · exact exit_pl (pl_strs _) k
theorem ok_is_parted (F : Fun K "is_parted" "is_parted" s_is_parted f fd) (T : Txt K mg C)  : FnOk P w K mg base CX0 1 f fd ["parting", "pair"] (spD K 2 S_is_parted) := by
  refine fnF F sc_is_parted (fun cdv A outer s H E hr => (dss_one (ds_ret (de_cmp (do_ne (K := K) hr.units) (de_cmp (do_in (K := K) (hu1 hr)) (de_ix (hu1 hr) (dv 1) de_int) (dv 0) (by with_unfolding_all rfl)) (de_cmp (do_in (K := K) (hu1 hr)) (de_ix (hu1 hr) (dv 1) de_int) (dv 0) (by with_unfolding_all rfl)) (nomark _))))) ?_
  rintro st0 ds Qd _ ⟨p, a, b, rfl, k⟩
  simp only [sIf, sSeq, sRet, sRetN, sAsg, sSet, sDrop, sNext, sNever, sPar, sFor, sFldD, mNot, mTv, mAnd, mOr, mAndV, mOrV, mNotV, mBin, mUn, mC, mCall, mCons, mNil, mTup, mLst, mLstC, mFn, mFnK, mCallL, mLenO, mLz, mIdx, DL.iZip, DL.iEnS, cSortT, mDic0, mDit0, gSubT, iCbR, cMinT, cMaxT, mIf, mChain, mFld, mIsC, mJoin, mSl, pNo, pSo, mLc, mLcC, mLc2, mLcK, mDc, mDcC, mIsi, mBack, mApp, mPop, mMake, mMeth, mHeard, iSeq, iRng1', iRng2', iEn, iCb, gNm, gTup1, gCons', gNil', gSub', mNm, mYes, startD, wipeD, isB, isI, isS, List.map_cons, List.map_nil, List.length_cons, List.length_nil, List.replicate_succ, List.replicate_zero, List.cons_append, List.nil_append, List.getElem?_cons_zero, List.getElem?_cons_succ, List.set_cons_zero, List.set_cons_succ, Nat.reduceAdd, Nat.reduceSub, if_true, true_and, ix20, ix21, oAdd_ii, oAdd_ss, oAdd_tt, oAdd_ll, oSub_ii, oMul_ii, oDiv_ii, oMod_ii, oPow_ii, oNeg_i, oLt_ii, oLe_ii, oGt_ii, oGe_ii, oEq_ii, oNe_ii, oEq_ss, oNe_ss, cInt_i, cInt_b, cAbs_i, cLen_s, cLen_l, cLen_f, cLen_t, cMin_2, cMax_2, cMax_3, cTuple_l, cTuple_t, cDivmod_ii, cListC_s, items_l, items_t, items_s, Nat.reduceLeDiff]
  refine oIx_str (i := 0) rfl rfl (by show 2 ≤ 1000000; decide) ?_
  rw [oIn_s]
  refine oIx_str (i := 1) rfl rfl (by show 2 ≤ 1000000; decide) ?_
  rw [oIn_s, oNe_bb]
  refine exit_pl rfl ?_
  have : (!decide ((false != decide (a ∈ p)) = (false != decide (b ∈ p)))) = isPartedM p a b := by
    rw [Ld.ne_bool]; unfold isPartedM; cases decide (a ∈ p) <;> cases decide (b ∈ p) <;> rfl
  rw [this]; exact k
theorem ok_other_lot (F : Fun K "other_lot" "other_lot" s_other_lot f fd) (T : Txt K mg C)  : FnOk P w K mg base CX0 1 f fd ["things", "lot"] (spD K 2 S_other_lot) := by
  refine fnF F sc_other_lot (fun cdv A outer s H E hr => (dss_one (ds_ret (de_join de_str (de_lc (own := [("thing", 2)]) rfl sc_other_lot.nd (di_seq (dv 0)) (blkOk_by (own := [("thing", 2)]) (N := N_other_lot) (sc := defScope s_other_lot) (by decide +kernel)) (tof_nm (i := 2)) (fun _ _ _ _ _ => (pg_name (i := 2) sc_other_lot.nd rfl (Or.inl rfl) (Or.inr rfl))) (fun _ _ _ _ _ => (dts_one (dt_cmp (do_notin (K := K) (hu1 hr)) (dv 2) (dv 1) (by with_unfolding_all rfl)))) (fun _ _ _ _ _ => (dv 2))))))) ?_
  rintro st0 ds Qd _ ⟨l, p, rfl, hl, k⟩
  refine ⟨by rw [List.length_map]; omega, ?_⟩
  refine lcD_pf (p := fun c => true != decide (c ∈ p)) (f := fun c => D.str [c]) (fun c hc K1 K0 q => q) trivial ?_
  rw [tbne]
  refine join_sg (Nat.le_trans (List.length_filter_le _ _) hl) ?_
  exact exit_pl rfl k
theorem ok_do_cross (F : Fun K "do_cross" "do_cross" s_do_cross f fd) (T : Txt K mg C) (C_other_lot : CanD P w K mg base 1 "other_lot" s_other_lot ["things", "lot"] S_other_lot) : FnOk P w K mg base CX0 2 f fd ["things", "parting", "other_parting"] (spD K 3 S_do_cross) := by
  refine fnF F sc_do_cross (fun cdv A outer s H E hr => (dss_cons (ds_set (i := 3) sc_do_cross.nd rfl (Or.inl rfl) (de_tup (da_cons (dv 1) (da_cons (de_fn C_other_lot (hr.mono (by decide)) (da_cons (dv 0) (da_cons (dv 1) da_nil))) da_nil))))
  (dss_cons (ds_set (i := 4) sc_do_cross.nd rfl (Or.inr rfl) (de_tup (da_cons (dv 2) (da_cons (de_fn C_other_lot (hr.mono (by decide)) (da_cons (dv 0) (da_cons (dv 2) da_nil))) da_nil))))
  (dss_one (ds_ret (de_callB (dc_all (K := K) rfl) T.all (da_cons (de_lc2 (own := [("lot", 6), ("others", 7)]) (vs1 := [7]) rfl sc_do_cross.nd (di_seq (dv 3)) (blkOk_by (own := [("lot", 6), ("others", 7)]) (N := N_do_cross) (sc := defScope s_do_cross) (by decide +kernel)) (tof_nm (i := 6)) (tof_nm (i := 7)) (by decide) (fun _ _ _ _ _ => (pg_name (i := 6) sc_do_cross.nd rfl (Or.inl rfl) (Or.inr rfl))) (fun _ _ _ _ _ => dts_nil) (fun _ _ _ _ _ => (di_seq (dv 4))) (fun _ _ _ _ _ => (pg_name (i := 7) sc_do_cross.nd rfl (Or.inr rfl) (Or.inl rfl))) (fun _ _ _ _ _ => dts_nil) (fun _ _ _ _ _ => (de_callB (dc_any (K := K) rfl) T.any (da_cons (de_lc (own := [("thing", 5)]) rfl sc_do_cross.nd (di_seq (dv 6)) (blkOk_by (own := [("thing", 5)]) (N := N_do_cross) (sc := ({ kind := .function, names := [(".0", .local), ("lot", .local), ("others", .cell), ("any", .globalImplicit), ("other_lots", .cell)], isGenerator := false, isCoroutine := false } : Scope)) (by decide +kernel)) (tof_nm (i := 5)) (fun _ _ _ _ _ => (pg_name (i := 5) sc_do_cross.nd rfl (Or.inl rfl) (Or.inr rfl))) (fun _ _ _ _ _ => dts_nil) (fun _ _ _ _ _ => (de_cmp (do_in (K := K) (hu1 hr)) (dv 5) (dv 7) (by with_unfolding_all rfl)))) da_nil)))) da_nil))))))) ?_
  rintro st0 ds Qd _ ⟨l, p, q, rfl, hl, hp, hq, k⟩
  have ho : ∀ x, (otherM l x).length ≤ 1000 := fun x => Nat.le_trans (List.length_filter_le _ _) hl
  have two : ∀ x : List Nat, x.length ≤ 1000 → ∀ y ∈ [x, otherM l x], y.length ≤ 1000 := fun x hx y hy => by
    simp only [List.mem_cons, List.not_mem_nil, or_false] at hy
    rcases hy with rfl | rfl
    · exact hx
    · exact ho _
  have hA := two p hp
  have lA : [p, otherM l p].length ≤ 2 := by show 2 ≤ 2; decide
  have lB : [q, otherM l q].length ≤ 2 := by show 2 ≤ 2; decide
  have k' : Qd (.bl ((crossBs [p, otherM l p] [q, otherM l q]).all id)) st0 := k
  refine seq_rel (fun ρ st => st = st0 ∧ ρ = [some (.str l), some (.str p), some (.str q), some (.tup ([p, otherM l p].map D.str)), none, none, none, none]) ?_ ?_
  rotate_left
  · intro N hN
    simp only [sIf, sSeq, sRet, sRetN, sAsg, sSet, sDrop, sNext, sNever, sPar, sFor, sFldD, mNot, mTv, mAnd, mOr, mAndV, mOrV, mNotV, mBin, mUn, mC, mCall, mCons, mNil, mTup, mLst, mLstC, mFn, mFnK, mCallL, mLenO, mLz, mIdx, DL.iZip, DL.iEnS, cSortT, mDic0, mDit0, gSubT, iCbR, cMinT, cMaxT, mIf, mChain, mFld, mIsC, mJoin, mSl, pNo, pSo, mLc, mLcC, mLc2, mLcK, mDc, mDcC, mIsi, mBack, mApp, mPop, mMake, mMeth, mHeard, iSeq, iRng1', iRng2', iEn, iCb, gNm, gTup1, gCons', gNil', gSub', mNm, mYes, startD, wipeD, isB, isI, isS, List.map_cons, List.map_nil, List.length_cons, List.length_nil, List.replicate_succ, List.replicate_zero, List.cons_append, List.nil_append, List.getElem?_cons_zero, List.getElem?_cons_succ, List.set_cons_zero, List.set_cons_succ, Nat.reduceAdd, Nat.reduceSub, if_true, true_and, ix20, ix21, oAdd_ii, oAdd_ss, oAdd_tt, oAdd_ll, oSub_ii, oMul_ii, oDiv_ii, oMod_ii, oPow_ii, oNeg_i, oLt_ii, oLe_ii, oGt_ii, oGe_ii, oEq_ii, oNe_ii, oEq_ss, oNe_ss, cInt_i, cInt_b, cAbs_i, cLen_s, cLen_l, cLen_f, cLen_t, cMin_2, cMax_2, cMax_3, cTuple_l, cTuple_t, cDivmod_ii, cListC_s, items_l, items_t, items_s, Nat.reduceLeDiff]
    exact ⟨l, p, rfl, hl, hN _ _ ⟨rfl, rfl⟩⟩
  rintro ρ st ⟨rfl, rfl⟩
  refine seq_rel (fun ρ st' => st' = st ∧ ρ = [some (.str l), some (.str p), some (.str q), some (.tup ([p, otherM l p].map D.str)), some (.tup ([q, otherM l q].map D.str)), none, none, none]) ?_ ?_
  rotate_left
  · intro N hN
    simp only [sIf, sSeq, sRet, sRetN, sAsg, sSet, sDrop, sNext, sNever, sPar, sFor, sFldD, mNot, mTv, mAnd, mOr, mAndV, mOrV, mNotV, mBin, mUn, mC, mCall, mCons, mNil, mTup, mLst, mLstC, mFn, mFnK, mCallL, mLenO, mLz, mIdx, DL.iZip, DL.iEnS, cSortT, mDic0, mDit0, gSubT, iCbR, cMinT, cMaxT, mIf, mChain, mFld, mIsC, mJoin, mSl, pNo, pSo, mLc, mLcC, mLc2, mLcK, mDc, mDcC, mIsi, mBack, mApp, mPop, mMake, mMeth, mHeard, iSeq, iRng1', iRng2', iEn, iCb, gNm, gTup1, gCons', gNil', gSub', mNm, mYes, startD, wipeD, isB, isI, isS, List.map_cons, List.map_nil, List.length_cons, List.length_nil, List.replicate_succ, List.replicate_zero, List.cons_append, List.nil_append, List.getElem?_cons_zero, List.getElem?_cons_succ, List.set_cons_zero, List.set_cons_succ, Nat.reduceAdd, Nat.reduceSub, if_true, true_and, ix20, ix21, oAdd_ii, oAdd_ss, oAdd_tt, oAdd_ll, oSub_ii, oMul_ii, oDiv_ii, oMod_ii, oPow_ii, oNeg_i, oLt_ii, oLe_ii, oGt_ii, oGe_ii, oEq_ii, oNe_ii, oEq_ss, oNe_ss, cInt_i, cInt_b, cAbs_i, cLen_s, cLen_l, cLen_f, cLen_t, cMin_2, cMax_2, cMax_3, cTuple_l, cTuple_t, cDivmod_ii, cListC_s, items_l, items_t, items_s, Nat.reduceLeDiff]
    exact ⟨l, q, rfl, hl, hN _ _ ⟨rfl, rfl⟩⟩
  rintro ρ st' ⟨rfl, rfl⟩
  clear k
  generalize [p, otherM l p] = A at *
  generalize [q, otherM l q] = B at *
  simp only [sIf, sSeq, sRet, sRetN, sAsg, sSet, sDrop, sNext, sNever, sPar, sFor, sFldD, mNot, mTv, mAnd, mOr, mAndV, mOrV, mNotV, mBin, mUn, mC, mCall, mCons, mNil, mTup, mLst, mLstC, mFn, mFnK, mCallL, mLenO, mLz, mIdx, DL.iZip, DL.iEnS, cSortT, mDic0, mDit0, gSubT, iCbR, cMinT, cMaxT, mIf, mChain, mFld, mIsC, mJoin, mSl, pNo, pSo, mLc, mLcC, mLc2, mLcK, mDc, mDcC, mIsi, mBack, mApp, mPop, mMake, mMeth, mHeard, iSeq, iRng1', iRng2', iEn, iCb, gNm, gTup1, gCons', gNil', gSub', mNm, mYes, startD, wipeD, isB, isI, isS, List.map_cons, List.map_nil, List.length_cons, List.length_nil, List.replicate_succ, List.replicate_zero, List.cons_append, List.nil_append, List.getElem?_cons_zero, List.getElem?_cons_succ, List.set_cons_zero, List.set_cons_succ, Nat.reduceAdd, Nat.reduceSub, if_true, true_and, ix20, ix21, oAdd_ii, oAdd_ss, oAdd_tt, oAdd_ll, oSub_ii, oMul_ii, oDiv_ii, oMod_ii, oPow_ii, oNeg_i, oLt_ii, oLe_ii, oGt_ii, oGe_ii, oEq_ii, oNe_ii, oEq_ss, oNe_ss, cInt_i, cInt_b, cAbs_i, cLen_s, cLen_l, cLen_f, cLen_t, cMin_2, cMax_2, cMax_3, cTuple_l, cTuple_t, cDivmod_ii, cListC_s, items_l, items_t, items_s, Nat.reduceLeDiff]
  refine ⟨by rw [List.length_map]; omega, ?_⟩
  refine lcD2_m (F := fun a => B.map fun b => D.bl (a.any fun c => decide (c ∈ b))) (fun a ha KK qq => ?_) trivial ?_
  · simp only [sIf, sSeq, sRet, sRetN, sAsg, sSet, sDrop, sNext, sNever, sPar, sFor, sFldD, mNot, mTv, mAnd, mOr, mAndV, mOrV, mNotV, mBin, mUn, mC, mCall, mCons, mNil, mTup, mLst, mLstC, mFn, mFnK, mCallL, mLenO, mLz, mIdx, DL.iZip, DL.iEnS, cSortT, mDic0, mDit0, gSubT, iCbR, cMinT, cMaxT, mIf, mChain, mFld, mIsC, mJoin, mSl, pNo, pSo, mLc, mLcC, mLc2, mLcK, mDc, mDcC, mIsi, mBack, mApp, mPop, mMake, mMeth, mHeard, iSeq, iRng1', iRng2', iEn, iCb, gNm, gTup1, gCons', gNil', gSub', mNm, mYes, startD, wipeD, isB, isI, isS, List.map_cons, List.map_nil, List.length_cons, List.length_nil, List.replicate_succ, List.replicate_zero, List.cons_append, List.nil_append, List.getElem?_cons_zero, List.getElem?_cons_succ, List.set_cons_zero, List.set_cons_succ, Nat.reduceAdd, Nat.reduceSub, if_true, true_and, ix20, ix21, oAdd_ii, oAdd_ss, oAdd_tt, oAdd_ll, oSub_ii, oMul_ii, oDiv_ii, oMod_ii, oPow_ii, oNeg_i, oLt_ii, oLe_ii, oGt_ii, oGe_ii, oEq_ii, oNe_ii, oEq_ss, oNe_ss, cInt_i, cInt_b, cAbs_i, cLen_s, cLen_l, cLen_f, cLen_t, cMin_2, cMax_2, cMax_3, cTuple_l, cTuple_t, cDivmod_ii, cListC_s, items_l, items_t, items_s, Nat.reduceLeDiff]
    refine ⟨by rw [List.length_map]; omega, ?_⟩
    refine lcD_m (f := fun b => D.bl (a.any fun c => decide (c ∈ b))) (fun b hb K1 qq => ?_) trivial qq
    simp only [sIf, sSeq, sRet, sRetN, sAsg, sSet, sDrop, sNext, sNever, sPar, sFor, sFldD, mNot, mTv, mAnd, mOr, mAndV, mOrV, mNotV, mBin, mUn, mC, mCall, mCons, mNil, mTup, mLst, mLstC, mFn, mFnK, mCallL, mLenO, mLz, mIdx, DL.iZip, DL.iEnS, cSortT, mDic0, mDit0, gSubT, iCbR, cMinT, cMaxT, mIf, mChain, mFld, mIsC, mJoin, mSl, pNo, pSo, mLc, mLcC, mLc2, mLcK, mDc, mDcC, mIsi, mBack, mApp, mPop, mMake, mMeth, mHeard, iSeq, iRng1', iRng2', iEn, iCb, gNm, gTup1, gCons', gNil', gSub', mNm, mYes, startD, wipeD, isB, isI, isS, List.map_cons, List.map_nil, List.length_cons, List.length_nil, List.replicate_succ, List.replicate_zero, List.cons_append, List.nil_append, List.getElem?_cons_zero, List.getElem?_cons_succ, List.set_cons_zero, List.set_cons_succ, Nat.reduceAdd, Nat.reduceSub, if_true, true_and, ix20, ix21, oAdd_ii, oAdd_ss, oAdd_tt, oAdd_ll, oSub_ii, oMul_ii, oDiv_ii, oMod_ii, oPow_ii, oNeg_i, oLt_ii, oLe_ii, oGt_ii, oGe_ii, oEq_ii, oNe_ii, oEq_ss, oNe_ss, cInt_i, cInt_b, cAbs_i, cLen_s, cLen_l, cLen_f, cLen_t, cMin_2, cMax_2, cMax_3, cTuple_l, cTuple_t, cDivmod_ii, cListC_s, items_l, items_t, items_s, Nat.reduceLeDiff]
    refine ⟨by rw [List.length_map]; have := hA a ha; omega, ?_⟩
    refine lcD_m (f := fun c => D.bl (decide (c ∈ b))) (fun c hc K1 qq => ?_) trivial ?_
    · simp only [sIf, sSeq, sRet, sRetN, sAsg, sSet, sDrop, sNext, sNever, sPar, sFor, sFldD, mNot, mTv, mAnd, mOr, mAndV, mOrV, mNotV, mBin, mUn, mC, mCall, mCons, mNil, mTup, mLst, mLstC, mFn, mFnK, mCallL, mLenO, mLz, mIdx, DL.iZip, DL.iEnS, cSortT, mDic0, mDit0, gSubT, iCbR, cMinT, cMaxT, mIf, mChain, mFld, mIsC, mJoin, mSl, pNo, pSo, mLc, mLcC, mLc2, mLcK, mDc, mDcC, mIsi, mBack, mApp, mPop, mMake, mMeth, mHeard, iSeq, iRng1', iRng2', iEn, iCb, gNm, gTup1, gCons', gNil', gSub', mNm, mYes, startD, wipeD, isB, isI, isS, List.map_cons, List.map_nil, List.length_cons, List.length_nil, List.replicate_succ, List.replicate_zero, List.cons_append, List.nil_append, List.getElem?_cons_zero, List.getElem?_cons_succ, List.set_cons_zero, List.set_cons_succ, Nat.reduceAdd, Nat.reduceSub, if_true, true_and, ix20, ix21, oAdd_ii, oAdd_ss, oAdd_tt, oAdd_ll, oSub_ii, oMul_ii, oDiv_ii, oMod_ii, oPow_ii, oNeg_i, oLt_ii, oLe_ii, oGt_ii, oGe_ii, oEq_ii, oNe_ii, oEq_ss, oNe_ss, cInt_i, cInt_b, cAbs_i, cLen_s, cLen_l, cLen_f, cLen_t, cMin_2, cMax_2, cMax_3, cTuple_l, cTuple_t, cDivmod_ii, cListC_s, items_l, items_t, items_s, Nat.reduceLeDiff]
      rw [oIn_s]
      have e : (false != decide (c ∈ b)) = decide (c ∈ b) := by cases decide (c ∈ b) <;> rfl
      rw [e]; exact qq
    · have e3 : a.map (fun c => D.bl (decide (c ∈ b))) = (a.map fun c => decide (c ∈ b)).map D.bl := by rw [List.map_map]; rfl
      rw [e3]
      refine ⟨_, rfl, ?_⟩
      rw [List.any_map]
      exact qq
  · have e4 : ((A.map fun a => B.map fun b => D.bl (a.any fun c => decide (c ∈ b))).flatten) = (crossBs A B).map D.bl := by
      unfold crossBs
      rw [List.map_flatMap, List.flatMap_def]
      congr 1
      refine List.map_congr_left fun a _ => ?_
      rw [List.map_map]; rfl
    rw [e4]
    exact ⟨_, rfl, exit_pl rfl k'⟩
theorem ok_both_ways (F : Fun K "both_ways" "both_ways" s_both_ways f fd) (T : Txt K mg C)  : FnOk P w K mg base CX0 1 f fd ["places", "rows"] (spD K 2 S_both_ways) := by
  refine fnF F sc_both_ways (fun cdv A outer s H E hr => (dss_cons (ds_dcC (own := [("place", 3)]) (i := 2) rfl sc_both_ways.nd rfl rfl (swd_true rfl rfl rfl (by decide +kernel)) (di_seq (dv 0)) (blkOk_by (own := [("place", 3)]) (N := N_both_ways) (sc := defScope s_both_ways) (by decide +kernel)) (tof_nm (i := 3)) (fun _ _ _ _ _ => (pg_name (i := 3) sc_both_ways.nd rfl (Or.inl rfl) (Or.inr rfl))) (fun _ _ _ _ _ => dts_nil) (fun _ _ _ _ _ => (de_bin (do_add (K := K)) (dv 3) (dv 3))) (fun _ _ _ _ _ => de_int))
  (dss_cons (ds_for PassesOwn.never rfl (di_seq (dv 1)) (dg_tup1 (K := K) (n := 2) rfl (dgs_cons (dg_nm (i := 4) sc_both_ways.nd rfl (Or.inl rfl) (Or.inr rfl)) (dgs_cons (dg_nm (i := 5) sc_both_ways.nd rfl (Or.inl rfl) (Or.inr rfl)) dgs_nil))) (dss_cons (ds_asg (dv 5) (dg_sub (dv 2) (dv 4) (dset (hu1 hr))))
  (dss_one (ds_asg (dv 5) (dg_sub (dv 2) (de_back (dv 4)) (dset (hu1 hr)))))))
  (dss_one (ds_ret (dv 2)))))) ?_
  rintro st0 ds Qd _ ⟨l, rr, rfl, hl, hr1, hr2, k⟩
  refine ⟨by rw [List.length_map]; omega, ?_⟩
  refine dcD_m (kf := fun c => .inr [c, c]) (vf := fun c => .int 0) (fun c hc KK q => ⟨by show 1 + 1 ≤ 1000000; decide, q⟩) trivial ?_
  refine forD_rel (i := 0) (fun i ρ st => ∃ x y, ρ = [some (.str l), some (.tup (rowsD rr)), some (.cel st0.length), none, x, y] ∧ st = st0 ++ [.dic ((rr.take i).foldl bothStep (selfK l))]) ⟨none, none, rfl, rfl⟩ ?_ ?_
  · rintro j r ρ st hj ⟨x, y, rfl, rfl⟩
    refine ⟨trivial, fun N hN => ?_⟩
    have hln := bothS_len (rr.take (0 + j)) (selfK l)
    have hsl := selfK_len l []
    rw [List.length_take] at hln
    have hs : (selfK l).length ≤ 1000 := Nat.le_trans hsl (by simpa using hl)
    have hnd : NdK ((rr.take (0 + j)).foldl bothStep (selfK l)) := bothK_nd l _
    refine ⟨rfl, oSet_dic (k := .inr r.1) rfl (last_at _ _) hnd (by omega) ?_⟩
    rw [set_last]
    refine ⟨hr2 r (List.mem_of_getElem? hj), oSet_dic (k := .inr r.1.reverse) rfl (last_at _ _) (putD_nd hnd) ?_ ?_⟩
    · have := putD_len (.inr r.1) (.int r.2) ((rr.take (0 + j)).foldl bothStep (selfK l))
      omega
    rw [set_last]
    refine hN _ _ ⟨_, _, rfl, ?_⟩
    have e1 : 0 + j + 1 = j + 1 := by omega
    rw [e1, take_snoc hj, List.foldl_append, Nat.zero_add]
    rfl
  · rintro ρ st ⟨x, y, rfl, rfl⟩
    refine ⟨trivial, ?_⟩
    rw [Nat.zero_add, List.take_length]
    exact exit_cellD (Nat.le_refl _) (last_at _ _) (bothK_pl l rr) k
end
end K20d
set_option Elab.async false
set_option linter.all false
set_option maxRecDepth 100000
set_option maxHeartbeats 4000000
namespace K20d
open PySem PySem.Spec PyProof.Rows L2 Nf DL Pd Nd Ld Cd Hd
section
variable {P : Program} {w : World} {K : PySem.W.Frag} {mg : Str → Option Value} {base : Heap} {C : Addr} {f : Addr} {fd : FuncData}
theorem ok_is_distance (F : Fun K "is_distance" "is_distance" s_is_distance f fd) (T : Txt K mg C) (C_is_integer_within : CanD P w K mg base 2 "is_integer_within" s_is_integer_within ["value", "least", "most"] S_is_integer_within) : FnOk P w K mg base CX0 3 f fd ["value"] (spD K 1 S_is_distance) := by
  refine fnF F sc_is_distance (fun cdv A outer s H E hr => (dss_one (ds_ret (de_fn C_is_integer_within (hr.mono (by decide)) (da_cons (dv 0) (da_cons de_int (da_cons (de_gI T.g_MOST_DISTANCE) da_nil))))))) ?_
  rintro st0 ds Qd _ ⟨v, rfl, h0, h1, k⟩
  refine ⟨rfl, v, 0, 1000000, rfl, ?_⟩
  rw [decide_eq_true h0, decide_eq_true h1]
  exact exit_pl rfl k
theorem ok_is_entry (F : Fun K "is_entry" "is_entry" s_is_entry f fd) (T : Txt K mg C)  : FnOk P w K mg base CX0 1 f fd ["value", "pair"] (spD K 2 S_is_entry) := by
  refine fnF F sc_is_entry (fun cdv A outer s H E hr => (dss_one (ds_ret (de_and (de_isi (t := "tuple") T.isinstance (dv 0) T.tuple) (de_and (de_cmp (do_eq (K := K) hr.units) (de_callB (dc_len (K := K)) T.len (da_cons (dv 0) da_nil)) de_int (nomark _)) (de_and (de_isi (t := "str") T.isinstance (de_ix (hu1 hr) (dv 0) de_int) T.str) (de_one (de_cmp (do_eq (K := K) hr.units) (de_ix (hu1 hr) (dv 0) de_int) (dv 1) (nomark _))))))))) ?_
  rintro st0 ds Qd _ ⟨p, v, rfl, k⟩
  have e : decide (p = p) = true := decide_eq_true rfl
  show exitF st0 Qd (.bl (decide (p = p))) st0
  rw [e]
  exact exit_pl rfl k
theorem ok_check_distances (F : Fun K "check_distances" "check_distances" s_check_distances f fd) (T : Txt K mg C) (C_pairs_of : CanD P w K mg base 1 "pairs_of" s_pairs_of ["letters"] S_pairs_of) (C_is_entry : CanD P w K mg base 1 "is_entry" s_is_entry ["value", "pair"] S_is_entry) (C_is_distance : CanD P w K mg base 3 "is_distance" s_is_distance ["value"] S_is_distance) : FnOk P w K mg base CX0 4 f fd ["things", "distances", "fits"] (spD K 3 (S_check_distances mg)) := by
  refine fnF F sc_check_distances (fun cdv A outer s H E hr => (dss_cons (ds_if (dt_not (dt_val (de_isi (t := "tuple") T.isinstance (dv 1) T.tuple))) (dss_one ds_never) dss_nil)
  (dss_cons (ds_set (i := 3) sc_check_distances.nd rfl (Or.inl rfl) (de_fn C_pairs_of (hr.mono (by decide)) (da_cons (dv 0) da_nil)))
  (dss_cons (ds_for PassesOwn.never rfl (di_enum T.enumerate (dv 1)) (dg_tup1 (K := K) (n := 2) rfl (dgs_cons (dg_nm (i := 4) sc_check_distances.nd rfl (Or.inl rfl) (Or.inr rfl)) (dgs_cons (dg_nm (i := 5) sc_check_distances.nd rfl (Or.inl rfl) (Or.inr rfl)) dgs_nil))) (dss_one (ds_if (PW.pt (dw_or (dt_cmp (do_eq (K := K) hr.units) (dv 4) (de_callB (dc_len (K := K)) T.len (da_cons (dv 3) da_nil)) (nomark _)) (dw_or (dt_not (dt_val (de_fn C_is_entry (hr.mono (by decide)) (da_cons (dv 5) (da_cons (de_ix (hu1 hr) (dv 3) (dv 4)) da_nil))))) (dw_or1 (dt_not (dt_val (de_callL (i := 2) C_is_distance (hr.mono (by decide)) (da_cons (de_ix (hu1 hr) (dv 5) de_int) da_nil)))))))) (dss_one ds_never) dss_nil)))
  (dss_one (ds_if (dt_cmp do_lt (de_callB (dc_len (K := K)) T.len (da_cons (dv 1) da_nil)) (de_callB (dc_len (K := K)) T.len (da_cons (dv 3) da_nil)) (nomark _)) (dss_one ds_never) dss_nil)))))) ?_
  rintro st0 ds Qd _ ⟨l, far, rfl, hl, hF, k⟩
  have hlen : (rowsD (rowsF l far)).length = (combA 2 l).length := by rw [rowsD, rowsF, List.length_map, List.length_map]
  refine ⟨rfl, l, rfl, hl, ?_⟩
  show forD _ _ _ ((enumD 0 (rowsD (rowsF l far))).map D.tup) _ _ _
  rw [enumD_zip]
  refine forD_rel (i := 0) (fun i ρ st => ∃ x y, ρ = [some (.str l), some (.tup (rowsD (rowsF l far))), some (fv mg "is_distance"), some (.lst ((combA 2 l).map D.str)), x, y] ∧ st = st0) ⟨none, none, rfl, rfl⟩ ?_ ?_
  · rintro j p ρ st hj ⟨x, y, rfl, rfl⟩
    obtain ⟨h1, h2⟩ := Pd.zip_get hj
    obtain ⟨d, i⟩ := p
    obtain rfl : i = j := h2
    rw [rowsD, rowsF, List.map_map, List.getElem?_map] at h1
    obtain ⟨r, hr, rfl⟩ : ∃ r, (combA 2 l)[i]? = some r ∧ d = D.tup [.str r, .int (farR far r)] := by
      cases q : (combA 2 l)[i]? with
      | none => rw [q] at h1; cases h1
      | some r => rw [q] at h1; cases h1; exact ⟨r, rfl, rfl⟩
    have hi : i < (combA 2 l).length := (List.getElem?_eq_some_iff.mp hr).1
    obtain ⟨a, b, rfl, ha, hb⟩ := comb2_pair (List.mem_of_getElem? hr)
    refine ⟨trivial, fun N hN => ?_⟩
    refine ⟨rfl, ?_⟩
    have e : decide ((i : Int) = (((combA 2 l).map D.str).length : Int)) = false := decide_eq_false (by rw [List.length_map]; omega)
    show if decide ((i : Int) = (((combA 2 l).map D.str).length : Int)) = true then _ else _
    rw [e]
    refine iteF ?_
    refine oIx_seq (d := .lst ((combA 2 l).map D.str)) (xs := (combA 2 l).map D.str) (.inl rfl) rfl (by rw [List.getElem?_map, hr]; rfl) ?_
    refine ⟨rfl, [a, b], far a b, rfl, ?_⟩
    refine ⟨rfl, rfl, far a b, rfl, (hF a ha b hb).1, (hF a ha b hb).2, ?_⟩
    exact hN _ _ ⟨_, _, rfl, rfl⟩
  · rintro ρ st ⟨x, y, rfl, rfl⟩
    refine ⟨trivial, ?_⟩
    have e : decide (((rowsD (rowsF l far)).length : Int) < (((combA 2 l).map D.str).length : Int)) = false := decide_eq_false (by rw [List.length_map, hlen]; omega)
    show if decide (((rowsD (rowsF l far)).length : Int) < (((combA 2 l).map D.str).length : Int)) = true then _ else _
    rw [e]
    exact iteF (exit_pl rfl k)
theorem ok_check_table (F : Fun K "check_table" "check_table" s_check_table f fd) (T : Txt K mg C)  : FnOk P w K mg base CX0 2 f fd ["table"] (spD K 1 (S_check_table C)) := by
  refine fnF F sc_check_table (fun cdv A outer s H E hr => (dss_one (ds_if (dt_not (dt_val (de_isC T.is_Table T.isinstance T.g_Table (dv 0)))) (dss_one ds_never) dss_nil))) ?_
  rintro st0 ds Qd _ ⟨d, fs, rfl, h, k⟩
  simp only [sIf, sSeq, sRet, sRetN, sAsg, sSet, sDrop, sNext, sNever, sPar, sFor, sFldD, mNot, mTv, mAnd, mOr, mAndV, mOrV, mNotV, mBin, mUn, mC, mCall, mCons, mNil, mTup, mLst, mLstC, mFn, mFnK, mCallL, mLenO, mLz, mIdx, DL.iZip, DL.iEnS, cSortT, mDic0, mDit0, gSubT, iCbR, cMinT, cMaxT, mIf, mChain, mFld, mIsC, mJoin, mSl, pNo, pSo, mLc, mLcC, mLc2, mLcK, mDc, mDcC, mIsi, mBack, mApp, mPop, mMake, mMeth, mHeard, iSeq, iRng1', iRng2', iEn, iCb, gNm, gTup1, gCons', gNil', gSub', mNm, mYes, startD, wipeD, isB, isI, isS, List.map_cons, List.map_nil, List.length_cons, List.length_nil, List.replicate_succ, List.replicate_zero, List.cons_append, List.nil_append, List.getElem?_cons_zero, List.getElem?_cons_succ, List.set_cons_zero, List.set_cons_succ, Nat.reduceAdd, Nat.reduceSub, if_true, true_and, ix20, ix21, oAdd_ii, oAdd_ss, oAdd_tt, oAdd_ll, oSub_ii, oMul_ii, oDiv_ii, oMod_ii, oPow_ii, oNeg_i, oLt_ii, oLe_ii, oGt_ii, oGe_ii, oEq_ii, oNe_ii, oEq_ss, oNe_ss, cInt_i, cInt_b, cAbs_i, cLen_s, cLen_l, cLen_f, cLen_t, cMin_2, cMax_2, cMax_3, cTuple_l, cTuple_t, cDivmod_ii, cListC_s, items_l, items_t, items_s, Nat.reduceLeDiff]
  refine isC_of h ?_
  exact exit_pl rfl k
theorem ok_Table_init (F : Fun K "__init__" "Table.__init__" s_Table_init f fd) (T : Txt K mg C) (C_check_things : CanD P w K mg base 2 "check_things" s_check_things ["things"] S_check_things) (C_check_distances : CanD P w K mg base 4 "check_distances" s_check_distances ["things", "distances", "fits"] (S_check_distances mg)) (C_is_distance : CanD P w K mg base 3 "is_distance" s_is_distance ["value"] S_is_distance) (C_both_ways : CanD P w K mg base 1 "both_ways" s_both_ways ["places", "rows"] S_both_ways) : FnOk P w K mg base CX0 5 f fd ["self", "things", "distances"] (spD K 3 (S_Table C)) := by
  refine fnF F sc_Table_init (fun cdv A outer s H E hr => (dss_cons (ds_expr (de_fn C_check_things (hr.mono (by decide)) (da_cons (dv 1) da_nil)))
  (dss_cons (ds_expr (de_fn C_check_distances (hr.mono (by decide)) (da_cons (dv 1) (da_cons (dv 2) (da_cons (de_gF C_is_distance) da_nil)))))
  (dss_cons (ds_fld T.cl T.n_things (dv 0) (dv 1))
  (dss_cons (ds_fld T.cl T.n_distances (dv 0) (dv 2))
  (dss_one (ds_fld T.cl T.n_lengths (dv 0) (de_fn C_both_ways (hr.mono (by decide)) (da_cons (dv 1) (da_cons (dv 2) da_nil)))))))))) ?_
  rintro st0 ds Qd _ ⟨n, l, far, rfl, hn, h1, h2, h3, hF, k⟩
  refine ⟨rfl, l, rfl, h1, h2, h3, rfl, l, far, rfl, h3, hF, ?_⟩
  refine fldS_of hn (by decide) ?_
  refine fldS_of (set_at hn) (Nat.lt_of_le_of_lt (putFD_len _ _ _) (by decide)) ?_
  rw [List.set_set]
  refine ⟨rfl, l, rowsF l far, rfl, by omega, ?_, ?_, ?_⟩
  · rw [rowsF, List.length_map]; exact Nat.le_trans (comb_le h3) (by decide)
  · rintro r hr
    obtain ⟨p, hp, rfl⟩ := List.mem_map.mp hr
    rw [(combA_mem _ _ _ hp).1]; decide
  refine fldS_of (set_at hn) (Nat.lt_of_le_of_lt (Nat.le_trans (putFD_len _ _ _) (Nat.succ_le_succ (putFD_len _ _ _))) (by decide)) ?_
  rw [List.set_set]
  refine exit_set0 rfl ?_ k
  exact plF.clo _ (by have := tabD_pl C l far; unfold tabD at this; rw [pl] at this; exact this)
theorem ok_partings (F : Fun K "partings" "partings" s_partings f fd) (T : Txt K mg C) (P_things : CanP P w K mg base C "things" "_things") (C_check_table : CanD P w K mg base 2 "check_table" s_check_table ["table"] (S_check_table C)) (C_lots_of : CanD P w K mg base 1 "lots_of" s_lots_of ["letters", "least"] S_lots_of) : FnOk P w K mg base CX0 3 f fd ["table"] (spD K 1 (S_partings C)) := by
  refine fnF F sc_partings (fun cdv A outer s H E hr => (dss_cons (ds_expr (de_fn C_check_table (hr.mono (by decide)) (da_cons (dv 0) da_nil)))
  (dss_one (ds_ret (de_callTy (dc_tuple (K := K)) T.tuple (da_cons (de_fn C_lots_of (hr.mono (by decide)) (da_cons (de_sl (de_prop T.cl P_things (hr.mono (by decide)) (dv 0)) (dp_so de_int) dp_no) (da_cons de_int da_nil))) da_nil)))))) ?_
  rintro st0 ds Qd _ ⟨d, l, far, rfl, hT, k⟩
  have hs := hT.sev
  refine ⟨rfl, d, _, rfl, hT.dr, ?_⟩
  refine isO_of hT.dr (fldK_of rfl ?_)
  simp only [sIf, sSeq, sRet, sRetN, sAsg, sSet, sDrop, sNext, sNever, sPar, sFor, sFldD, mNot, mTv, mAnd, mOr, mAndV, mOrV, mNotV, mBin, mUn, mC, mCall, mCons, mNil, mTup, mLst, mLstC, mFn, mFnK, mCallL, mLenO, mLz, mIdx, DL.iZip, DL.iEnS, cSortT, mDic0, mDit0, gSubT, iCbR, cMinT, cMaxT, mIf, mChain, mFld, mIsC, mJoin, mSl, pNo, pSo, mLc, mLcC, mLc2, mLcK, mDc, mDcC, mIsi, mBack, mApp, mPop, mMake, mMeth, mHeard, iSeq, iRng1', iRng2', iEn, iCb, gNm, gTup1, gCons', gNil', gSub', mNm, mYes, startD, wipeD, isB, isI, isS, List.map_cons, List.map_nil, List.length_cons, List.length_nil, List.replicate_succ, List.replicate_zero, List.cons_append, List.nil_append, List.getElem?_cons_zero, List.getElem?_cons_succ, List.set_cons_zero, List.set_cons_succ, Nat.reduceAdd, Nat.reduceSub, if_true, true_and, ix20, ix21, oAdd_ii, oAdd_ss, oAdd_tt, oAdd_ll, oSub_ii, oMul_ii, oDiv_ii, oMod_ii, oPow_ii, oNeg_i, oLt_ii, oLe_ii, oGt_ii, oGe_ii, oEq_ii, oNe_ii, oEq_ss, oNe_ss, cInt_i, cInt_b, cAbs_i, cLen_s, cLen_l, cLen_f, cLen_t, cMin_2, cMax_2, cMax_3, cTuple_l, cTuple_t, cDivmod_ii, cListC_s, items_l, items_t, items_s, Nat.reduceLeDiff]
  refine slD_str (l := l) (by omega) ?_
  rw [cut_one]
  refine ⟨l.drop 1, rfl, by rw [List.length_drop]; omega, ?_⟩
  refine exit_pl ?_ k
  rw [pl]
  exact plL_map _ (fun _ => rfl) _
theorem ok_parts (F : Fun K "parts" "parts" s_parts f fd) (T : Txt K mg C) (P_things : CanP P w K mg base C "things" "_things") (C_check_table : CanD P w K mg base 2 "check_table" s_check_table ["table"] (S_check_table C)) (C_check_parting : CanD P w K mg base 3 "check_parting" s_check_parting ["things", "parting"] S_check_parting) (C_check_pair : CanD P w K mg base 3 "check_pair" s_check_pair ["things", "pair"] S_check_pair) (C_is_parted : CanD P w K mg base 1 "is_parted" s_is_parted ["parting", "pair"] S_is_parted) : FnOk P w K mg base CX0 4 f fd ["table", "parting", "pair"] (spD K 3 (S_parts C)) := by
  refine fnF F sc_parts (fun cdv A outer s H E hr => (dss_cons (ds_expr (de_fn C_check_table (hr.mono (by decide)) (da_cons (dv 0) da_nil)))
  (dss_cons (ds_expr (de_fn C_check_parting (hr.mono (by decide)) (da_cons (de_prop T.cl P_things (hr.mono (by decide)) (dv 0)) (da_cons (dv 1) da_nil))))
  (dss_cons (ds_expr (de_fn C_check_pair (hr.mono (by decide)) (da_cons (de_prop T.cl P_things (hr.mono (by decide)) (dv 0)) (da_cons (dv 2) da_nil))))
  (dss_one (ds_ret (de_fn C_is_parted (hr.mono (by decide)) (da_cons (dv 1) (da_cons (dv 2) da_nil))))))))) ?_
  rintro st0 ds Qd _ ⟨t, l, far, p, a, b, rfl, hT, hp, hab, k⟩
  have hs := hT.sev
  have hpp : isPairM [a, b] l = true := pair_comb (lot_nd hT.lot) (by rw [combIx_A]; exact hab)
  simp only [sIf, sSeq, sRet, sRetN, sAsg, sSet, sDrop, sNext, sNever, sPar, sFor, sFldD, mNot, mTv, mAnd, mOr, mAndV, mOrV, mNotV, mBin, mUn, mC, mCall, mCons, mNil, mTup, mLst, mLstC, mFn, mFnK, mCallL, mLenO, mLz, mIdx, DL.iZip, DL.iEnS, cSortT, mDic0, mDit0, gSubT, iCbR, cMinT, cMaxT, mIf, mChain, mFld, mIsC, mJoin, mSl, pNo, pSo, mLc, mLcC, mLc2, mLcK, mDc, mDcC, mIsi, mBack, mApp, mPop, mMake, mMeth, mHeard, iSeq, iRng1', iRng2', iEn, iCb, gNm, gTup1, gCons', gNil', gSub', mNm, mYes, startD, wipeD, isB, isI, isS, List.map_cons, List.map_nil, List.length_cons, List.length_nil, List.replicate_succ, List.replicate_zero, List.cons_append, List.nil_append, List.getElem?_cons_zero, List.getElem?_cons_succ, List.set_cons_zero, List.set_cons_succ, Nat.reduceAdd, Nat.reduceSub, if_true, true_and, ix20, ix21, oAdd_ii, oAdd_ss, oAdd_tt, oAdd_ll, oSub_ii, oMul_ii, oDiv_ii, oMod_ii, oPow_ii, oNeg_i, oLt_ii, oLe_ii, oGt_ii, oGe_ii, oEq_ii, oNe_ii, oEq_ss, oNe_ss, cInt_i, cInt_b, cAbs_i, cLen_s, cLen_l, cLen_f, cLen_t, cMin_2, cMax_2, cMax_3, cTuple_l, cTuple_t, cDivmod_ii, cListC_s, items_l, items_t, items_s, Nat.reduceLeDiff]
  refine chk_table hT (chk_parting hT hp (things_step hT ⟨l, [a, b], rfl, by omega, by show 2 ≤ 1000; decide, hpp, ?_⟩))
  refine ⟨p, a, b, rfl, ?_⟩
  exact exit_pl rfl k
theorem ok_cross (F : Fun K "cross" "cross" s_cross f fd) (T : Txt K mg C) (P_things : CanP P w K mg base C "things" "_things") (C_check_table : CanD P w K mg base 2 "check_table" s_check_table ["table"] (S_check_table C)) (C_check_parting : CanD P w K mg base 3 "check_parting" s_check_parting ["things", "parting"] S_check_parting) (C_do_cross : CanD P w K mg base 2 "do_cross" s_do_cross ["things", "parting", "other_parting"] S_do_cross) : FnOk P w K mg base CX0 4 f fd ["table", "parting", "other_parting"] (spD K 3 (S_cross C)) := by
  refine fnF F sc_cross (fun cdv A outer s H E hr => (dss_cons (ds_expr (de_fn C_check_table (hr.mono (by decide)) (da_cons (dv 0) da_nil)))
  (dss_cons (ds_expr (de_fn C_check_parting (hr.mono (by decide)) (da_cons (de_prop T.cl P_things (hr.mono (by decide)) (dv 0)) (da_cons (dv 1) da_nil))))
  (dss_cons (ds_expr (de_fn C_check_parting (hr.mono (by decide)) (da_cons (de_prop T.cl P_things (hr.mono (by decide)) (dv 0)) (da_cons (dv 2) da_nil))))
  (dss_one (ds_ret (de_fn C_do_cross (hr.mono (by decide)) (da_cons (de_prop T.cl P_things (hr.mono (by decide)) (dv 0)) (da_cons (dv 1) (da_cons (dv 2) da_nil)))))))))) ?_
  rintro st0 ds Qd _ ⟨t, l, far, p, q, rfl, hT, hp, hq, k⟩
  have hs := hT.sev
  have h1 := parting_len hp
  have h2 := parting_len hq
  simp only [sIf, sSeq, sRet, sRetN, sAsg, sSet, sDrop, sNext, sNever, sPar, sFor, sFldD, mNot, mTv, mAnd, mOr, mAndV, mOrV, mNotV, mBin, mUn, mC, mCall, mCons, mNil, mTup, mLst, mLstC, mFn, mFnK, mCallL, mLenO, mLz, mIdx, DL.iZip, DL.iEnS, cSortT, mDic0, mDit0, gSubT, iCbR, cMinT, cMaxT, mIf, mChain, mFld, mIsC, mJoin, mSl, pNo, pSo, mLc, mLcC, mLc2, mLcK, mDc, mDcC, mIsi, mBack, mApp, mPop, mMake, mMeth, mHeard, iSeq, iRng1', iRng2', iEn, iCb, gNm, gTup1, gCons', gNil', gSub', mNm, mYes, startD, wipeD, isB, isI, isS, List.map_cons, List.map_nil, List.length_cons, List.length_nil, List.replicate_succ, List.replicate_zero, List.cons_append, List.nil_append, List.getElem?_cons_zero, List.getElem?_cons_succ, List.set_cons_zero, List.set_cons_succ, Nat.reduceAdd, Nat.reduceSub, if_true, true_and, ix20, ix21, oAdd_ii, oAdd_ss, oAdd_tt, oAdd_ll, oSub_ii, oMul_ii, oDiv_ii, oMod_ii, oPow_ii, oNeg_i, oLt_ii, oLe_ii, oGt_ii, oGe_ii, oEq_ii, oNe_ii, oEq_ss, oNe_ss, cInt_i, cInt_b, cAbs_i, cLen_s, cLen_l, cLen_f, cLen_t, cMin_2, cMax_2, cMax_3, cTuple_l, cTuple_t, cDivmod_ii, cListC_s, items_l, items_t, items_s, Nat.reduceLeDiff]
  refine chk_table hT (chk_parting hT hp (chk_parting hT hq (things_step hT ?_)))
  refine ⟨l, p, q, rfl, by omega, by omega, by omega, ?_⟩
  exact exit_pl rfl k
theorem ok_partner (F : Fun K "partner" "partner" s_partner f fd) (T : Txt K mg C) (C_is_parted : CanD P w K mg base 1 "is_parted" s_is_parted ["parting", "pair"] S_is_parted) : FnOk P w K mg base CX0 2 f fd ["parting", "four"] (spD K 2 S_partner) := by
  refine fnF F sc_partner (fun cdv A outer s H E hr => (dss_cons (ds_lc (own := [("thing", 3)]) (i := 2) rfl sc_partner.nd rfl rfl (sw_true rfl rfl rfl (by decide +kernel)) (di_seq (de_sl (dv 1) (dp_so de_int) dp_no)) (blkOk_by (own := [("thing", 3)]) (N := N_partner) (sc := defScope s_partner) (by decide +kernel)) (tof_nm (i := 3)) (fun _ _ _ _ _ => (pg_name (i := 3) sc_partner.nd rfl (Or.inl rfl) (Or.inr rfl))) (fun _ _ _ _ _ => (dts_one (dt_not (dt_val (de_fn C_is_parted (hr.mono (by decide)) (da_cons (dv 0) (da_cons (de_bin (do_add (K := K)) (de_ix (hu1 hr) (dv 1) de_int) (dv 3)) da_nil))))))) (fun _ _ _ _ _ => (dv 3)))
  (dss_one (ds_ret (de_ifExp (dt_cmp (do_eq (K := K) hr.units) (de_callB (dc_len (K := K)) T.len (da_cons (dv 2) da_nil)) de_int (nomark _)) (de_ix (hu1 hr) (dv 2) de_int) de_str))))) ?_
  rintro st0 ds Qd _ ⟨p, four, rfl, h4, k⟩
  obtain ⟨x0, x1, x2, x3, rfl⟩ : ∃ a b c d, four = [a, b, c, d] := by
    match four, h4 with
    | [a, b, c, d], _ => exact ⟨a, b, c, d, rfl⟩
  have e1 : DL.cutD (sg [x0, x1, x2, x3]) (some 1) none = [x1, x2, x3].map fun c => D.str [c] := cut_one _
  have hb : besideM p [x0, x1, x2, x3] = [x1, x2, x3].filter fun c => !isPartedM p x0 c := rfl
  have g0 : (sg [x0, x1, x2, x3])[0]? = some (.str [x0]) := rfl
  have hl3 : [x1, x2, x3].length ≤ 3 := by show 3 ≤ 3; decide
  unfold partnerM at k
  rw [hb] at k
  clear hb
  generalize hF : sg [x0, x1, x2, x3] = F4 at *
  generalize [x1, x2, x3] = xs at *
  refine seq_rel (fun ρ st => st = st0 ∧ ρ = [some (.str p), some (.tup F4), some (.lst ((xs.filter fun c => !isPartedM p x0 c).map fun c => D.str [c])), none]) ?_ ?_
  rotate_left
  · intro N hN
    simp only [sIf, sSeq, sRet, sRetN, sAsg, sSet, sDrop, sNext, sNever, sPar, sFor, sFldD, mNot, mTv, mAnd, mOr, mAndV, mOrV, mNotV, mBin, mUn, mC, mCall, mCons, mNil, mTup, mLst, mLstC, mFn, mFnK, mCallL, mLenO, mLz, mIdx, DL.iZip, DL.iEnS, cSortT, mDic0, mDit0, gSubT, iCbR, cMinT, cMaxT, mIf, mChain, mFld, mIsC, mJoin, mSl, pNo, pSo, mLc, mLcC, mLc2, mLcK, mDc, mDcC, mIsi, mBack, mApp, mPop, mMake, mMeth, mHeard, iSeq, iRng1', iRng2', iEn, iCb, gNm, gTup1, gCons', gNil', gSub', mNm, mYes, startD, wipeD, isB, isI, isS, List.map_cons, List.map_nil, List.length_cons, List.length_nil, List.replicate_succ, List.replicate_zero, List.cons_append, List.nil_append, List.getElem?_cons_zero, List.getElem?_cons_succ, List.set_cons_zero, List.set_cons_succ, Nat.reduceAdd, Nat.reduceSub, if_true, true_and, ix20, ix21, oAdd_ii, oAdd_ss, oAdd_tt, oAdd_ll, oSub_ii, oMul_ii, oDiv_ii, oMod_ii, oPow_ii, oNeg_i, oLt_ii, oLe_ii, oGt_ii, oGe_ii, oEq_ii, oNe_ii, oEq_ss, oNe_ss, cInt_i, cInt_b, cAbs_i, cLen_s, cLen_l, cLen_f, cLen_t, cMin_2, cMax_2, cMax_3, cTuple_l, cTuple_t, cDivmod_ii, cListC_s, items_l, items_t, items_s, Nat.reduceLeDiff]
    have eS : ∀ Q : QD, slD st0 (.tup F4) (some 1) none Q = Q (.tup (DL.cutD F4 (some 1) none)) st0 := fun Q => rfl
    rw [eS, e1]
    refine ⟨by rw [List.length_map]; omega, ?_⟩
    refine lcD_pf (p := fun c => !isPartedM p x0 c) (f := fun c => D.str [c]) (fun c hc K1 K0 q => ?_) trivial ?_
    · simp only [sIf, sSeq, sRet, sRetN, sAsg, sSet, sDrop, sNext, sNever, sPar, sFor, sFldD, mNot, mTv, mAnd, mOr, mAndV, mOrV, mNotV, mBin, mUn, mC, mCall, mCons, mNil, mTup, mLst, mLstC, mFn, mFnK, mCallL, mLenO, mLz, mIdx, DL.iZip, DL.iEnS, cSortT, mDic0, mDit0, gSubT, iCbR, cMinT, cMaxT, mIf, mChain, mFld, mIsC, mJoin, mSl, pNo, pSo, mLc, mLcC, mLc2, mLcK, mDc, mDcC, mIsi, mBack, mApp, mPop, mMake, mMeth, mHeard, iSeq, iRng1', iRng2', iEn, iCb, gNm, gTup1, gCons', gNil', gSub', mNm, mYes, startD, wipeD, isB, isI, isS, List.map_cons, List.map_nil, List.length_cons, List.length_nil, List.replicate_succ, List.replicate_zero, List.cons_append, List.nil_append, List.getElem?_cons_zero, List.getElem?_cons_succ, List.set_cons_zero, List.set_cons_succ, Nat.reduceAdd, Nat.reduceSub, if_true, true_and, ix20, ix21, oAdd_ii, oAdd_ss, oAdd_tt, oAdd_ll, oSub_ii, oMul_ii, oDiv_ii, oMod_ii, oPow_ii, oNeg_i, oLt_ii, oLe_ii, oGt_ii, oGe_ii, oEq_ii, oNe_ii, oEq_ss, oNe_ss, cInt_i, cInt_b, cAbs_i, cLen_s, cLen_l, cLen_f, cLen_t, cMin_2, cMax_2, cMax_3, cTuple_l, cTuple_t, cDivmod_ii, cListC_s, items_l, items_t, items_s, Nat.reduceLeDiff]
      refine oIx_seq (d := .tup F4) (xs := F4) (i := 0) (.inr rfl) rfl g0 ?_
      simp only [sIf, sSeq, sRet, sRetN, sAsg, sSet, sDrop, sNext, sNever, sPar, sFor, sFldD, mNot, mTv, mAnd, mOr, mAndV, mOrV, mNotV, mBin, mUn, mC, mCall, mCons, mNil, mTup, mLst, mLstC, mFn, mFnK, mCallL, mLenO, mLz, mIdx, DL.iZip, DL.iEnS, cSortT, mDic0, mDit0, gSubT, iCbR, cMinT, cMaxT, mIf, mChain, mFld, mIsC, mJoin, mSl, pNo, pSo, mLc, mLcC, mLc2, mLcK, mDc, mDcC, mIsi, mBack, mApp, mPop, mMake, mMeth, mHeard, iSeq, iRng1', iRng2', iEn, iCb, gNm, gTup1, gCons', gNil', gSub', mNm, mYes, startD, wipeD, isB, isI, isS, List.map_cons, List.map_nil, List.length_cons, List.length_nil, List.replicate_succ, List.replicate_zero, List.cons_append, List.nil_append, List.getElem?_cons_zero, List.getElem?_cons_succ, List.set_cons_zero, List.set_cons_succ, Nat.reduceAdd, Nat.reduceSub, if_true, true_and, ix20, ix21, oAdd_ii, oAdd_ss, oAdd_tt, oAdd_ll, oSub_ii, oMul_ii, oDiv_ii, oMod_ii, oPow_ii, oNeg_i, oLt_ii, oLe_ii, oGt_ii, oGe_ii, oEq_ii, oNe_ii, oEq_ss, oNe_ss, cInt_i, cInt_b, cAbs_i, cLen_s, cLen_l, cLen_f, cLen_t, cMin_2, cMax_2, cMax_3, cTuple_l, cTuple_t, cDivmod_ii, cListC_s, items_l, items_t, items_s, Nat.reduceLeDiff]
      exact ⟨p, x0, c, rfl, q⟩
    · exact hN _ _ ⟨rfl, rfl⟩
  rintro ρ st ⟨rfl, rfl⟩
  generalize (xs.filter fun c => !isPartedM p x0 c) = bs at *
  simp only [sIf, sSeq, sRet, sRetN, sAsg, sSet, sDrop, sNext, sNever, sPar, sFor, sFldD, mNot, mTv, mAnd, mOr, mAndV, mOrV, mNotV, mBin, mUn, mC, mCall, mCons, mNil, mTup, mLst, mLstC, mFn, mFnK, mCallL, mLenO, mLz, mIdx, DL.iZip, DL.iEnS, cSortT, mDic0, mDit0, gSubT, iCbR, cMinT, cMaxT, mIf, mChain, mFld, mIsC, mJoin, mSl, pNo, pSo, mLc, mLcC, mLc2, mLcK, mDc, mDcC, mIsi, mBack, mApp, mPop, mMake, mMeth, mHeard, iSeq, iRng1', iRng2', iEn, iCb, gNm, gTup1, gCons', gNil', gSub', mNm, mYes, startD, wipeD, isB, isI, isS, List.map_cons, List.map_nil, List.length_cons, List.length_nil, List.replicate_succ, List.replicate_zero, List.cons_append, List.nil_append, List.getElem?_cons_zero, List.getElem?_cons_succ, List.set_cons_zero, List.set_cons_succ, Nat.reduceAdd, Nat.reduceSub, if_true, true_and, ix20, ix21, oAdd_ii, oAdd_ss, oAdd_tt, oAdd_ll, oSub_ii, oMul_ii, oDiv_ii, oMod_ii, oPow_ii, oNeg_i, oLt_ii, oLe_ii, oGt_ii, oGe_ii, oEq_ii, oNe_ii, oEq_ss, oNe_ss, cInt_i, cInt_b, cAbs_i, cLen_s, cLen_l, cLen_f, cLen_t, cMin_2, cMax_2, cMax_3, cTuple_l, cTuple_t, cDivmod_ii, cListC_s, items_l, items_t, items_s, Nat.reduceLeDiff]
  match bs, k with
  | [], k => exact exit_pl rfl k
  | [c], k => exact oIx_seq (d := .lst [D.str [c]]) (xs := [D.str [c]]) (i := 0) (.inl rfl) rfl rfl (exit_pl rfl k)
  | c :: c' :: bs, k =>
    have hne : ¬ (((((c :: c' :: bs).map fun c => D.str [c]).length : Nat) : Int) = 1) := by simp only [List.length_map, List.length_cons]; omega
    have hne2 : ¬ ((c :: c' :: bs).length = 1) := by simp only [List.length_cons]; omega
    rw [if_neg hne2] at k
    rw [decide_eq_false hne, if_neg (by decide)]
    exact exit_pl rfl k
theorem ok_partners (F : Fun K "partners" "partners" s_partners f fd) (T : Txt K mg C) (C_partner : CanD P w K mg base 2 "partner" s_partner ["parting", "four"] S_partner) : FnOk P w K mg base CX0 3 f fd ["three", "four"] (spD K 2 S_partners) := by
  refine fnF F sc_partners (fun cdv A outer s H E hr => (dss_one (ds_ret (de_callB (dc_sorted (K := K)) T.sorted (da_cons (de_lc (own := [("parting", 2)]) rfl sc_partners.nd (di_seq (dv 0)) (blkOk_by (own := [("parting", 2)]) (N := N_partners) (sc := defScope s_partners) (by decide +kernel)) (tof_nm (i := 2)) (fun _ _ _ _ _ => (pg_name (i := 2) sc_partners.nd rfl (Or.inl rfl) (Or.inr rfl))) (fun _ _ _ _ _ => dts_nil) (fun _ _ _ _ _ => (de_fn C_partner (hr.mono (by decide)) (da_cons (dv 2) (da_cons (dv 1) da_nil))))) da_nil))))) ?_
  rintro st0 ds Qd _ ⟨ps, four, rfl, hl, h4, k⟩
  simp only [sIf, sSeq, sRet, sRetN, sAsg, sSet, sDrop, sNext, sNever, sPar, sFor, sFldD, mNot, mTv, mAnd, mOr, mAndV, mOrV, mNotV, mBin, mUn, mC, mCall, mCons, mNil, mTup, mLst, mLstC, mFn, mFnK, mCallL, mLenO, mLz, mIdx, DL.iZip, DL.iEnS, cSortT, mDic0, mDit0, gSubT, iCbR, cMinT, cMaxT, mIf, mChain, mFld, mIsC, mJoin, mSl, pNo, pSo, mLc, mLcC, mLc2, mLcK, mDc, mDcC, mIsi, mBack, mApp, mPop, mMake, mMeth, mHeard, iSeq, iRng1', iRng2', iEn, iCb, gNm, gTup1, gCons', gNil', gSub', mNm, mYes, startD, wipeD, isB, isI, isS, List.map_cons, List.map_nil, List.length_cons, List.length_nil, List.replicate_succ, List.replicate_zero, List.cons_append, List.nil_append, List.getElem?_cons_zero, List.getElem?_cons_succ, List.set_cons_zero, List.set_cons_succ, Nat.reduceAdd, Nat.reduceSub, if_true, true_and, ix20, ix21, oAdd_ii, oAdd_ss, oAdd_tt, oAdd_ll, oSub_ii, oMul_ii, oDiv_ii, oMod_ii, oPow_ii, oNeg_i, oLt_ii, oLe_ii, oGt_ii, oGe_ii, oEq_ii, oNe_ii, oEq_ss, oNe_ss, cInt_i, cInt_b, cAbs_i, cLen_s, cLen_l, cLen_f, cLen_t, cMin_2, cMax_2, cMax_3, cTuple_l, cTuple_t, cDivmod_ii, cListC_s, items_l, items_t, items_s, Nat.reduceLeDiff]
  refine ⟨by rw [List.length_map]; omega, ?_⟩
  refine lcD_m (f := fun p => D.str (partnerM p four)) (fun p hp K1 q => ⟨rfl, p, four, rfl, h4, q⟩) trivial ?_
  have e1 : ps.map (fun p => D.str (partnerM p four)) = (ps.map fun p => partnerM p four).map D.str := by rw [List.map_map]; rfl
  rw [e1]
  refine cSorted_strs (by rw [List.length_map]; omega) ?_
  exact exit_pl (pl_strs _) k
theorem oEq_strs {st : Store} {ls ms : List (List Nat)} {Q : QD} (h1 : ∀ n ∈ ls, okL n ∧ n.length ≤ 1000) (h2 : ∀ n ∈ ms, okL n ∧ n.length ≤ 1000) (q : Q (.bl (decide (ls = ms))) st) : oEq st (.lst (ls.map D.str)) (.lst (ms.map D.str)) Q := by
  have s1 : SxD 1 _ (.lst (ls.map D.str)) := .lst (wt := 1000) fun d hd => by obtain ⟨n, hn, rfl⟩ := List.mem_map.mp hd; exact (SxD.str (h1 n hn).1).mono (Nat.le_refl _) (h1 n hn).2
  have s2 : SxD 1 _ (.lst (ms.map D.str)) := .lst (wt := 1000) fun d hd => by obtain ⟨n, hn, rfl⟩ := List.mem_map.mp hd; exact (SxD.str (h2 n hn).1).mono (Nat.le_refl _) (h2 n hn).2
  refine ⟨⟨s1.1, s2.1, s1.shaped (by decide), s2.shaped (by decide)⟩, ?_⟩
  have e : PyData.eqv (py (.lst (ls.map D.str))) (py (.lst (ms.map D.str))) = decide (ls = ms) := by
    rw [py, py, PyData.eqv, eqv_strs]
  show Q (.bl (PyData.eqv (py (.lst (ls.map D.str))) (py (.lst (ms.map D.str))))) st
  rw [e]; exact q
theorem partner_sub {p four : List Nat} {c : Nat} (h : c ∈ partnerM p four) : c ∈ four := by
  unfold partnerM at h
  split at h
  · exact List.mem_of_mem_drop (List.mem_filter.mp h).1
  · cases h
theorem partner_len (p four : List Nat) : (partnerM p four).length ≤ 1 := by
  unfold partnerM
  split
  · omega
  · exact Nat.zero_le _
theorem lot_okL {l : List Nat} (h : isLotM l lettersL = true) : okL l := fun c hc => by
  have : ∀ c ∈ lettersL, c < 0x110000 := by decide +kernel
  exact this c (lot_sub h c hc)
theorem ok_do_clash (F : Fun K "do_clash" "do_clash" s_do_clash f fd) (T : Txt K mg C) (C_partners : CanD P w K mg base 3 "partners" s_partners ["three", "four"] S_partners) : FnOk P w K mg base CX0 4 f fd ["things", "three"] (spD K 2 S_do_clash) := by
  refine fnF F sc_do_clash (fun cdv A outer s H E hr => (dss_one (ds_ret (de_callB (dc_any (K := K) rfl) T.any (da_cons (de_lc (own := [("four", 2)]) rfl sc_do_clash.nd (di_comb rfl T.combinations (dv 0) de_int) (blkOk_by (own := [("four", 2)]) (N := N_do_clash) (sc := defScope s_do_clash) (by decide +kernel)) (tof_nm (i := 2)) (fun _ _ _ _ _ => (pg_name (i := 2) sc_do_clash.nd rfl (Or.inl rfl) (Or.inr rfl))) (fun _ _ _ _ _ => dts_nil) (fun _ _ _ _ _ => (de_cmp (do_eq (K := K) hr.units) (de_fn C_partners (hr.mono (by decide)) (da_cons (dv 1) (da_cons (dv 2) da_nil))) (de_callTy (dc_list (K := K) rfl) T.list (da_cons (de_sl (dv 2) (dp_so de_int) dp_no) da_nil)) (nomark _)))) da_nil))))) ?_
  rintro st0 ds Qd _ ⟨l, ps, rfl, hps, hlot, hl, k⟩
  have hok := lot_okL hlot
  simp only [sIf, sSeq, sRet, sRetN, sAsg, sSet, sDrop, sNext, sNever, sPar, sFor, sFldD, mNot, mTv, mAnd, mOr, mAndV, mOrV, mNotV, mBin, mUn, mC, mCall, mCons, mNil, mTup, mLst, mLstC, mFn, mFnK, mCallL, mLenO, mLz, mIdx, DL.iZip, DL.iEnS, cSortT, mDic0, mDit0, gSubT, iCbR, cMinT, cMaxT, mIf, mChain, mFld, mIsC, mJoin, mSl, pNo, pSo, mLc, mLcC, mLc2, mLcK, mDc, mDcC, mIsi, mBack, mApp, mPop, mMake, mMeth, mHeard, iSeq, iRng1', iRng2', iEn, iCb, gNm, gTup1, gCons', gNil', gSub', mNm, mYes, startD, wipeD, isB, isI, isS, List.map_cons, List.map_nil, List.length_cons, List.length_nil, List.replicate_succ, List.replicate_zero, List.cons_append, List.nil_append, List.getElem?_cons_zero, List.getElem?_cons_succ, List.set_cons_zero, List.set_cons_succ, Nat.reduceAdd, Nat.reduceSub, if_true, true_and, ix20, ix21, oAdd_ii, oAdd_ss, oAdd_tt, oAdd_ll, oSub_ii, oMul_ii, oDiv_ii, oMod_ii, oPow_ii, oNeg_i, oLt_ii, oLe_ii, oGt_ii, oGe_ii, oEq_ii, oNe_ii, oEq_ss, oNe_ss, cInt_i, cInt_b, cAbs_i, cLen_s, cLen_l, cLen_f, cLen_t, cMin_2, cMax_2, cMax_3, cTuple_l, cTuple_t, cDivmod_ii, cListC_s, items_l, items_t, items_s, Nat.reduceLeDiff]
  refine ⟨⟨by rw [List.length_map]; omega, by decide, by decide⟩, ?_⟩
  rw [combA_map, List.map_map]
  have hc : (combA 4 l).length ≤ 35 := comb_le hl
  refine ⟨by rw [List.length_map]; exact Nat.le_trans hc (by decide), ?_⟩
  refine lcD_m (f := fun r => D.bl (clashB ps r)) (fun r hr K1 q => ?_) trivial ?_
  · have hm := combA_mem _ _ _ hr
    have r4 : r.length = 4 := hm.1
    refine ⟨rfl, ps, r, rfl, hps, r4, ?_⟩
    have e1 : DL.cutD (sg r) (some 1) none = sg (r.drop 1) := by rw [cut_one]; unfold sg; rw [List.map_drop]
    show oEq st0 (.lst ((srt (ps.map fun p => partnerM p r)).map D.str)) (.lst (DL.cutD (sg r) (some 1) none)) K1
    rw [e1]
    have e2 : sg (r.drop 1) = ((r.drop 1).map fun c => [c]).map D.str := by unfold sg; rw [List.map_map]; rfl
    rw [e2]
    refine oEq_strs (fun n hn => ?_) (fun n hn => ?_) q
    · obtain ⟨p, _, rfl⟩ := List.mem_map.mp ((srt_perm _).mem_iff.mp hn)
      exact ⟨fun c hc => hok c (hm.2 c (partner_sub hc)), Nat.le_trans (partner_len _ _) (by decide)⟩
    · obtain ⟨c, hc, rfl⟩ := List.mem_map.mp hn
      refine ⟨fun x hx => ?_, by show 1 ≤ 1000; decide⟩
      rw [List.mem_singleton.mp hx]
      exact hok c (hm.2 c (List.mem_of_mem_drop hc))
  · have e3 : (combA 4 l).map (fun r => D.bl (clashB ps r)) = ((combA 4 l).map (clashB ps)).map D.bl := by rw [List.map_map]; rfl
    show cAny st0 [D.lst ((combA 4 l).map fun r => D.bl (clashB ps r))] (exitF st0 Qd)
    rw [e3]
    refine ⟨_, rfl, ?_⟩
    have e4 : ((combA 4 l).map (clashB ps)).any id = clashM l ps := by unfold clashM; rw [combIx_A]
    rw [e4]
    exact exit_pl rfl k
theorem ok_clash (F : Fun K "clash" "clash" s_clash f fd) (T : Txt K mg C) (P_things : CanP P w K mg base C "things" "_things") (C_check_table : CanD P w K mg base 2 "check_table" s_check_table ["table"] (S_check_table C)) (C_check_parting : CanD P w K mg base 3 "check_parting" s_check_parting ["things", "parting"] S_check_parting) (C_do_clash : CanD P w K mg base 4 "do_clash" s_do_clash ["things", "three"] S_do_clash) : FnOk P w K mg base CX0 5 f fd ["table", "parting", "other_parting", "third_parting"] (spD K 4 (S_clash C)) := by
  refine fnF F sc_clash (fun cdv A outer s H E hr => (dss_cons (ds_expr (de_fn C_check_table (hr.mono (by decide)) (da_cons (dv 0) da_nil)))
  (dss_cons (ds_expr (de_fn C_check_parting (hr.mono (by decide)) (da_cons (de_prop T.cl P_things (hr.mono (by decide)) (dv 0)) (da_cons (dv 1) da_nil))))
  (dss_cons (ds_expr (de_fn C_check_parting (hr.mono (by decide)) (da_cons (de_prop T.cl P_things (hr.mono (by decide)) (dv 0)) (da_cons (dv 2) da_nil))))
  (dss_cons (ds_expr (de_fn C_check_parting (hr.mono (by decide)) (da_cons (de_prop T.cl P_things (hr.mono (by decide)) (dv 0)) (da_cons (dv 3) da_nil))))
  (dss_one (ds_ret (de_fn C_do_clash (hr.mono (by decide)) (da_cons (de_prop T.cl P_things (hr.mono (by decide)) (dv 0)) (da_cons (de_tup (da_cons (dv 1) (da_cons (dv 2) (da_cons (dv 3) da_nil)))) da_nil)))))))))) ?_
  rintro st0 ds Qd _ ⟨t, l, far, p, q, r, rfl, hT, hp, hq, hr, k⟩
  simp only [sIf, sSeq, sRet, sRetN, sAsg, sSet, sDrop, sNext, sNever, sPar, sFor, sFldD, mNot, mTv, mAnd, mOr, mAndV, mOrV, mNotV, mBin, mUn, mC, mCall, mCons, mNil, mTup, mLst, mLstC, mFn, mFnK, mCallL, mLenO, mLz, mIdx, DL.iZip, DL.iEnS, cSortT, mDic0, mDit0, gSubT, iCbR, cMinT, cMaxT, mIf, mChain, mFld, mIsC, mJoin, mSl, pNo, pSo, mLc, mLcC, mLc2, mLcK, mDc, mDcC, mIsi, mBack, mApp, mPop, mMake, mMeth, mHeard, iSeq, iRng1', iRng2', iEn, iCb, gNm, gTup1, gCons', gNil', gSub', mNm, mYes, startD, wipeD, isB, isI, isS, List.map_cons, List.map_nil, List.length_cons, List.length_nil, List.replicate_succ, List.replicate_zero, List.cons_append, List.nil_append, List.getElem?_cons_zero, List.getElem?_cons_succ, List.set_cons_zero, List.set_cons_succ, Nat.reduceAdd, Nat.reduceSub, if_true, true_and, ix20, ix21, oAdd_ii, oAdd_ss, oAdd_tt, oAdd_ll, oSub_ii, oMul_ii, oDiv_ii, oMod_ii, oPow_ii, oNeg_i, oLt_ii, oLe_ii, oGt_ii, oGe_ii, oEq_ii, oNe_ii, oEq_ss, oNe_ss, cInt_i, cInt_b, cAbs_i, cLen_s, cLen_l, cLen_f, cLen_t, cMin_2, cMax_2, cMax_3, cTuple_l, cTuple_t, cDivmod_ii, cListC_s, items_l, items_t, items_s, Nat.reduceLeDiff]
  refine chk_table hT (chk_parting hT hp (chk_parting hT hq (chk_parting hT hr (things_step hT ?_))))
  refine ⟨l, [p, q, r], rfl, by show 3 ≤ 60; decide, hT.lot, hT.sev, ?_⟩
  exact exit_pl rfl k
end
end K20d
set_option Elab.async false
set_option linter.all false
set_option maxRecDepth 100000
set_option maxHeartbeats 4000000
namespace K20d
open PySem PySem.Spec PyProof.Rows L2 Nf DL Pd Nd Ld Cd
section
variable {P : Program} {w : World} {K : PySem.W.Frag} {mg : Str → Option Value} {base : Heap} {C : Addr} {f : Addr} {fd : FuncData}
theorem ok_law_urn (F : Fun K "_law_urn" "_law_urn" s_law_urn f fd) (T : Txt K mg C)  : FnOk P w K mg base CX0 1 f fd ["_law_cells", "_law_turn"] (spD K 2 S_law_urn) := by
  refine fnK F sc_law_urn (fun cdv A outer s H E hr => (dss_cons (ds_set (i := 2) sc_law_urn.nd rfl (Or.inl rfl) (de_bin (do_add (K := K)) de_int (de_bin (do_mul (K := K)) de_int (dv 1))))
  (dss_cons (ds_for PassesOwn.never rfl (di_range1 T.range (de_callB (dc_min (K := K) rfl) T.min (da_cons (de_callB (dc_len (K := K)) T.len (da_cons (dv 0) da_nil)) (da_cons de_int da_nil)))) (dg_nm (i := 3) sc_law_urn.nd rfl (Or.inl rfl) (Or.inr rfl)) (dss_one (ds_set (i := 2) sc_law_urn.nd rfl (Or.inl rfl) (de_bin do_mod (de_callTy dc_int T.int (da_cons (de_bin (do_add (K := K)) (de_bin (do_add (K := K)) (de_bin (do_mul (K := K)) (dv 2) de_int) (de_bin (do_mul (K := K)) (de_bin (do_add (K := K)) (dv 3) de_int) (de_ix (hu1 hr) (dv 0) (dv 3)))) de_int) da_nil)) de_int))))
  (dss_cons (ds_set (i := 4) sc_law_urn.nd rfl (Or.inl rfl) (de_ifExp (dt_cmp do_lt (dv 1) (de_callB (dc_len (K := K)) T.len (da_cons (dv 0) da_nil)) (nomark _)) (de_callB dc_abs T.abs (da_cons (de_ix (hu1 hr) (dv 0) (dv 1)) da_nil)) de_int))
  (dss_one (ds_ret (de_lstC (da_cons (de_bin (do_add (K := K)) de_int (dv 2)) (da_cons (de_ifExp (dt_cmp do_ge (dv 4) (de_bin do_pow de_int de_int) (nomark _)) (dv 4) de_int) da_nil))))))))) ?_
  rintro st0 ds Qd _ ⟨ns, t, rfl, hl, k⟩
  simp only [sIf, sSeq, sRet, sRetN, sAsg, sSet, sDrop, sNext, sNever, sPar, sFor, sFldD, mNot, mTv, mAnd, mOr, mAndV, mOrV, mNotV, mBin, mUn, mC, mCall, mCons, mNil, mTup, mLst, mLstC, mFn, mFnK, mCallL, mLenO, mLz, mIdx, DL.iZip, DL.iEnS, cSortT, mDic0, mDit0, gSubT, iCbR, cMinT, cMaxT, mIf, mChain, mFld, mIsC, mJoin, mSl, pNo, pSo, mLc, mLcC, mLc2, mLcK, mDc, mDcC, mIsi, mBack, mApp, mPop, mMake, mMeth, mHeard, iSeq, iRng1', iRng2', iEn, iCb, gNm, gTup1, gCons', gNil', gSub', mNm, mYes, startD, wipeD, isB, isI, isS, List.map_cons, List.map_nil, List.length_cons, List.length_nil, List.replicate_succ, List.replicate_zero, List.cons_append, List.nil_append, List.getElem?_cons_zero, List.getElem?_cons_succ, List.set_cons_zero, List.set_cons_succ, Nat.reduceAdd, Nat.reduceSub, if_true, true_and, ix20, ix21, oAdd_ii, oAdd_ss, oAdd_tt, oAdd_ll, oSub_ii, oMul_ii, oDiv_ii, oMod_ii, oPow_ii, oNeg_i, oLt_ii, oLe_ii, oGt_ii, oGe_ii, oEq_ii, oNe_ii, oEq_ss, oNe_ss, cInt_i, cInt_b, cAbs_i, cLen_s, cLen_l, cLen_f, cLen_t, cMin_2, cMax_2, cMax_3, cTuple_l, cTuple_t, cDivmod_ii, cListC_s, items_l, items_t, items_s, Nat.reduceLeDiff]
  have hm := mn_le ((ns.map D.int).length : Int) 24
  rw [List.length_map] at hm
  have hm0 : (0 : Int) ≤ mn (ns.length : Int) 24 := by rcases hm.2.2 with e | e <;> rw [e] <;> omega
  rw [List.length_map]
  refine ⟨.inl (.inl ⟨by decide, by decide⟩), ⟨by omega, by omega⟩, ?_⟩
  refine forD_rel0 (l := List.range (mn (ns.length : Int) 24).toNat) (e := fun (i : Nat) => D.int (0 + i)) (fun i ρ st => st = st0 ∧ ∃ (z : Int) (y : Option D), 0 ≤ z ∧ ρ = [some (.frl (ns.map D.int)), some (.int t), some (.int z), y, none]) ⟨rfl, _, _, by omega, rfl⟩ ?_ ?_
  · rintro j i ρ st hj ⟨rfl, z, y, hz, rfl⟩
    obtain ⟨rfl, hi⟩ := rng_get hj
    have hi2 : i < ns.length := by omega
    refine ⟨trivial, fun N hN => ?_⟩
    simp only [sIf, sSeq, sRet, sRetN, sAsg, sSet, sDrop, sNext, sNever, sPar, sFor, sFldD, mNot, mTv, mAnd, mOr, mAndV, mOrV, mNotV, mBin, mUn, mC, mCall, mCons, mNil, mTup, mLst, mLstC, mFn, mFnK, mCallL, mLenO, mLz, mIdx, DL.iZip, DL.iEnS, cSortT, mDic0, mDit0, gSubT, iCbR, cMinT, cMaxT, mIf, mChain, mFld, mIsC, mJoin, mSl, pNo, pSo, mLc, mLcC, mLc2, mLcK, mDc, mDcC, mIsi, mBack, mApp, mPop, mMake, mMeth, mHeard, iSeq, iRng1', iRng2', iEn, iCb, gNm, gTup1, gCons', gNil', gSub', mNm, mYes, startD, wipeD, isB, isI, isS, List.map_cons, List.map_nil, List.length_cons, List.length_nil, List.replicate_succ, List.replicate_zero, List.cons_append, List.nil_append, List.getElem?_cons_zero, List.getElem?_cons_succ, List.set_cons_zero, List.set_cons_succ, Nat.reduceAdd, Nat.reduceSub, if_true, true_and, ix20, ix21, oAdd_ii, oAdd_ss, oAdd_tt, oAdd_ll, oSub_ii, oMul_ii, oDiv_ii, oMod_ii, oPow_ii, oNeg_i, oLt_ii, oLe_ii, oGt_ii, oGe_ii, oEq_ii, oNe_ii, oEq_ss, oNe_ss, cInt_i, cInt_b, cAbs_i, cLen_s, cLen_l, cLen_f, cLen_t, cMin_2, cMax_2, cMax_3, cTuple_l, cTuple_t, cDivmod_ii, cListC_s, items_l, items_t, items_s, Nat.reduceLeDiff]
    refine ⟨.inl (.inr ⟨by decide, by decide⟩), ?_⟩
    refine oIx_seq (d := .frl (ns.map D.int)) (xs := ns.map D.int) (i := i) (.inl rfl) (by omega) (by rw [List.getElem?_map, List.getElem?_eq_getElem hi2]; rfl) ?_
    simp only [sIf, sSeq, sRet, sRetN, sAsg, sSet, sDrop, sNext, sNever, sPar, sFor, sFldD, mNot, mTv, mAnd, mOr, mAndV, mOrV, mNotV, mBin, mUn, mC, mCall, mCons, mNil, mTup, mLst, mLstC, mFn, mFnK, mCallL, mLenO, mLz, mIdx, DL.iZip, DL.iEnS, cSortT, mDic0, mDit0, gSubT, iCbR, cMinT, cMaxT, mIf, mChain, mFld, mIsC, mJoin, mSl, pNo, pSo, mLc, mLcC, mLc2, mLcK, mDc, mDcC, mIsi, mBack, mApp, mPop, mMake, mMeth, mHeard, iSeq, iRng1', iRng2', iEn, iCb, gNm, gTup1, gCons', gNil', gSub', mNm, mYes, startD, wipeD, isB, isI, isS, List.map_cons, List.map_nil, List.length_cons, List.length_nil, List.replicate_succ, List.replicate_zero, List.cons_append, List.nil_append, List.getElem?_cons_zero, List.getElem?_cons_succ, List.set_cons_zero, List.set_cons_succ, Nat.reduceAdd, Nat.reduceSub, if_true, true_and, ix20, ix21, oAdd_ii, oAdd_ss, oAdd_tt, oAdd_ll, oSub_ii, oMul_ii, oDiv_ii, oMod_ii, oPow_ii, oNeg_i, oLt_ii, oLe_ii, oGt_ii, oGe_ii, oEq_ii, oNe_ii, oEq_ss, oNe_ss, cInt_i, cInt_b, cAbs_i, cLen_s, cLen_l, cLen_f, cLen_t, cMin_2, cMax_2, cMax_3, cTuple_l, cTuple_t, cDivmod_ii, cListC_s, items_l, items_t, items_s, Nat.reduceLeDiff]
    refine ⟨.inl (.inl ⟨by omega, by omega⟩), by decide, ?_⟩
    exact hN _ _ ⟨rfl, _, _, Int.emod_nonneg _ (by decide), rfl⟩
  · rintro ρ st ⟨rfl, z, y, hz, rfl⟩
    refine ⟨trivial, ?_⟩
    simp only [sIf, sSeq, sRet, sRetN, sAsg, sSet, sDrop, sNext, sNever, sPar, sFor, sFldD, mNot, mTv, mAnd, mOr, mAndV, mOrV, mNotV, mBin, mUn, mC, mCall, mCons, mNil, mTup, mLst, mLstC, mFn, mFnK, mCallL, mLenO, mLz, mIdx, DL.iZip, DL.iEnS, cSortT, mDic0, mDit0, gSubT, iCbR, cMinT, cMaxT, mIf, mChain, mFld, mIsC, mJoin, mSl, pNo, pSo, mLc, mLcC, mLc2, mLcK, mDc, mDcC, mIsi, mBack, mApp, mPop, mMake, mMeth, mHeard, iSeq, iRng1', iRng2', iEn, iCb, gNm, gTup1, gCons', gNil', gSub', mNm, mYes, startD, wipeD, isB, isI, isS, List.map_cons, List.map_nil, List.length_cons, List.length_nil, List.replicate_succ, List.replicate_zero, List.cons_append, List.nil_append, List.getElem?_cons_zero, List.getElem?_cons_succ, List.set_cons_zero, List.set_cons_succ, Nat.reduceAdd, Nat.reduceSub, if_true, true_and, ix20, ix21, oAdd_ii, oAdd_ss, oAdd_tt, oAdd_ll, oSub_ii, oMul_ii, oDiv_ii, oMod_ii, oPow_ii, oNeg_i, oLt_ii, oLe_ii, oGt_ii, oGe_ii, oEq_ii, oNe_ii, oEq_ss, oNe_ss, cInt_i, cInt_b, cAbs_i, cLen_s, cLen_l, cLen_f, cLen_t, cMin_2, cMax_2, cMax_3, cTuple_l, cTuple_t, cDivmod_ii, cListC_s, items_l, items_t, items_s, Nat.reduceLeDiff]
    have fin : ∀ q : Int, 0 ≤ q → Qd (.cel st.length) (st ++ [.lst [.int (1 + z), .int q]]) := fun q hq => k _ _ (by omega) hq
    by_cases ht : (t : Int) < ((ns.map D.int).length : Int)
    · rw [decide_eq_true ht]
      have ht' : t < ns.length := by rw [List.length_map] at ht; omega
      refine iteT (oIx_seq (d := .frl (ns.map D.int)) (xs := ns.map D.int) (.inl rfl) rfl (by rw [List.getElem?_map, List.getElem?_eq_getElem ht']; rfl) ?_)
      have hd : (0 : Int) ≤ if ns[t] < 0 then -ns[t] else ns[t] := by split <;> omega
      simp only [sIf, sSeq, sRet, sRetN, sAsg, sSet, sDrop, sNext, sNever, sPar, sFor, sFldD, mNot, mTv, mAnd, mOr, mAndV, mOrV, mNotV, mBin, mUn, mC, mCall, mCons, mNil, mTup, mLst, mLstC, mFn, mFnK, mCallL, mLenO, mLz, mIdx, DL.iZip, DL.iEnS, cSortT, mDic0, mDit0, gSubT, iCbR, cMinT, cMaxT, mIf, mChain, mFld, mIsC, mJoin, mSl, pNo, pSo, mLc, mLcC, mLc2, mLcK, mDc, mDcC, mIsi, mBack, mApp, mPop, mMake, mMeth, mHeard, iSeq, iRng1', iRng2', iEn, iCb, gNm, gTup1, gCons', gNil', gSub', mNm, mYes, startD, wipeD, isB, isI, isS, List.map_cons, List.map_nil, List.length_cons, List.length_nil, List.replicate_succ, List.replicate_zero, List.cons_append, List.nil_append, List.getElem?_cons_zero, List.getElem?_cons_succ, List.set_cons_zero, List.set_cons_succ, Nat.reduceAdd, Nat.reduceSub, if_true, true_and, ix20, ix21, oAdd_ii, oAdd_ss, oAdd_tt, oAdd_ll, oSub_ii, oMul_ii, oDiv_ii, oMod_ii, oPow_ii, oNeg_i, oLt_ii, oLe_ii, oGt_ii, oGe_ii, oEq_ii, oNe_ii, oEq_ss, oNe_ss, cInt_i, cInt_b, cAbs_i, cLen_s, cLen_l, cLen_f, cLen_t, cMin_2, cMax_2, cMax_3, cTuple_l, cTuple_t, cDivmod_ii, cListC_s, items_l, items_t, items_s, Nat.reduceLeDiff]
      revert hd
      generalize (if ns[t] < 0 then -ns[t] else ns[t]) = d
      intro hd
      refine ⟨⟨by decide, by decide, by decide⟩, ?_⟩
      cases decide ((10 : Int) ^ Int.toNat 17 ≤ d)
      · exact iteF (fin 0 (by decide))
      · exact iteT (fin d hd)
    · rw [decide_eq_false ht]
      refine iteF ⟨⟨by decide, by decide, by decide⟩, ?_⟩
      cases decide ((10 : Int) ^ Int.toNat 17 ≤ 0)
      · exact iteF (fin 0 (by decide))
      · exact iteT (fin 0 (by decide))
theorem ok_law_cast (F : Fun K "_law_cast" "_law_cast" s_law_cast f fd) (T : Txt K mg C)  : FnOk P w K mg base CX0 1 f fd ["_law_urn_here", "_law_size"] (spD K 2 S_law_cast) := by
  refine fnF F sc_law_cast (fun cdv A outer s H E hr => (dss_cons (ds_if (dt_cmp do_gt (de_ix (hu1 hr) (dv 0) de_int) de_int (nomark _)) (dss_cons (ds_asg (de_callB dc_divmod T.divmod (da_cons (de_ix (hu1 hr) (dv 0) de_int) (da_cons (dv 1) da_nil))) (dg_tup1 (K := K) (n := 2) rfl (dgs_cons (dg_sub (dv 0) de_int (dset (hu1 hr))) (dgs_cons (dg_nm (i := 2) sc_law_cast.nd rfl (Or.inl rfl) (Or.inr rfl)) dgs_nil))))
  (dss_one (ds_ret (dv 2)))) dss_nil)
  (dss_cons (ds_asg (de_bin do_mod (de_callTy dc_int T.int (da_cons (de_bin (do_add (K := K)) (de_bin (do_mul (K := K)) (de_ix (hu1 hr) (dv 0) de_int) de_int) de_int) da_nil)) de_int) (dg_sub (dv 0) de_int (dset (hu1 hr))))
  (dss_one (ds_ret (de_bin do_mod (de_callTy dc_int T.int (da_cons (de_bin do_div (de_ix (hu1 hr) (dv 0) de_int) de_int) da_nil)) (dv 1))))))) ?_
  rintro st0 ds Qd _ ⟨u, n, rfl, ⟨a, b, hu, ha, hb⟩, h0, h1, k⟩
  simp only [sIf, sSeq, sRet, sRetN, sAsg, sSet, sDrop, sNext, sNever, sPar, sFor, sFldD, mNot, mTv, mAnd, mOr, mAndV, mOrV, mNotV, mBin, mUn, mC, mCall, mCons, mNil, mTup, mLst, mLstC, mFn, mFnK, mCallL, mLenO, mLz, mIdx, DL.iZip, DL.iEnS, cSortT, mDic0, mDit0, gSubT, iCbR, cMinT, cMaxT, mIf, mChain, mFld, mIsC, mJoin, mSl, pNo, pSo, mLc, mLcC, mLc2, mLcK, mDc, mDcC, mIsi, mBack, mApp, mPop, mMake, mMeth, mHeard, iSeq, iRng1', iRng2', iEn, iCb, gNm, gTup1, gCons', gNil', gSub', mNm, mYes, startD, wipeD, isB, isI, isS, List.map_cons, List.map_nil, List.length_cons, List.length_nil, List.replicate_succ, List.replicate_zero, List.cons_append, List.nil_append, List.getElem?_cons_zero, List.getElem?_cons_succ, List.set_cons_zero, List.set_cons_succ, Nat.reduceAdd, Nat.reduceSub, if_true, true_and, ix20, ix21, oAdd_ii, oAdd_ss, oAdd_tt, oAdd_ll, oSub_ii, oMul_ii, oDiv_ii, oMod_ii, oPow_ii, oNeg_i, oLt_ii, oLe_ii, oGt_ii, oGe_ii, oEq_ii, oNe_ii, oEq_ss, oNe_ss, cInt_i, cInt_b, cAbs_i, cLen_s, cLen_l, cLen_f, cLen_t, cMin_2, cMax_2, cMax_3, cTuple_l, cTuple_t, cDivmod_ii, cListC_s, items_l, items_t, items_s, Nat.reduceLeDiff]
  have nn : ∀ x : Int, ∃ v : Nat, v < n ∧ x % (n : Int) = v := fun x => by
    have q1 := Int.emod_nonneg x (show (n : Int) ≠ 0 by omega)
    have q2 := Int.emod_lt_of_pos x (show (0 : Int) < n by omega)
    exact ⟨(x % (n : Int)).toNat, by omega, by omega⟩
  refine oIx_cel hu (i := 1) rfl rfl ?_
  simp only [sIf, sSeq, sRet, sRetN, sAsg, sSet, sDrop, sNext, sNever, sPar, sFor, sFldD, mNot, mTv, mAnd, mOr, mAndV, mOrV, mNotV, mBin, mUn, mC, mCall, mCons, mNil, mTup, mLst, mLstC, mFn, mFnK, mCallL, mLenO, mLz, mIdx, DL.iZip, DL.iEnS, cSortT, mDic0, mDit0, gSubT, iCbR, cMinT, cMaxT, mIf, mChain, mFld, mIsC, mJoin, mSl, pNo, pSo, mLc, mLcC, mLc2, mLcK, mDc, mDcC, mIsi, mBack, mApp, mPop, mMake, mMeth, mHeard, iSeq, iRng1', iRng2', iEn, iCb, gNm, gTup1, gCons', gNil', gSub', mNm, mYes, startD, wipeD, isB, isI, isS, List.map_cons, List.map_nil, List.length_cons, List.length_nil, List.replicate_succ, List.replicate_zero, List.cons_append, List.nil_append, List.getElem?_cons_zero, List.getElem?_cons_succ, List.set_cons_zero, List.set_cons_succ, Nat.reduceAdd, Nat.reduceSub, if_true, true_and, ix20, ix21, oAdd_ii, oAdd_ss, oAdd_tt, oAdd_ll, oSub_ii, oMul_ii, oDiv_ii, oMod_ii, oPow_ii, oNeg_i, oLt_ii, oLe_ii, oGt_ii, oGe_ii, oEq_ii, oNe_ii, oEq_ss, oNe_ss, cInt_i, cInt_b, cAbs_i, cLen_s, cLen_l, cLen_f, cLen_t, cMin_2, cMax_2, cMax_3, cTuple_l, cTuple_t, cDivmod_ii, cListC_s, items_l, items_t, items_s, Nat.reduceLeDiff]
  by_cases hpos : 0 < b
  · rw [decide_eq_true hpos]
    refine iteT (oIx_cel hu (i := 1) rfl rfl ?_)
    simp only [sIf, sSeq, sRet, sRetN, sAsg, sSet, sDrop, sNext, sNever, sPar, sFor, sFldD, mNot, mTv, mAnd, mOr, mAndV, mOrV, mNotV, mBin, mUn, mC, mCall, mCons, mNil, mTup, mLst, mLstC, mFn, mFnK, mCallL, mLenO, mLz, mIdx, DL.iZip, DL.iEnS, cSortT, mDic0, mDit0, gSubT, iCbR, cMinT, cMaxT, mIf, mChain, mFld, mIsC, mJoin, mSl, pNo, pSo, mLc, mLcC, mLc2, mLcK, mDc, mDcC, mIsi, mBack, mApp, mPop, mMake, mMeth, mHeard, iSeq, iRng1', iRng2', iEn, iCb, gNm, gTup1, gCons', gNil', gSub', mNm, mYes, startD, wipeD, isB, isI, isS, List.map_cons, List.map_nil, List.length_cons, List.length_nil, List.replicate_succ, List.replicate_zero, List.cons_append, List.nil_append, List.getElem?_cons_zero, List.getElem?_cons_succ, List.set_cons_zero, List.set_cons_succ, Nat.reduceAdd, Nat.reduceSub, if_true, true_and, ix20, ix21, oAdd_ii, oAdd_ss, oAdd_tt, oAdd_ll, oSub_ii, oMul_ii, oDiv_ii, oMod_ii, oPow_ii, oNeg_i, oLt_ii, oLe_ii, oGt_ii, oGe_ii, oEq_ii, oNe_ii, oEq_ss, oNe_ss, cInt_i, cInt_b, cAbs_i, cLen_s, cLen_l, cLen_f, cLen_t, cMin_2, cMax_2, cMax_3, cTuple_l, cTuple_t, cDivmod_ii, cListC_s, items_l, items_t, items_s, Nat.reduceLeDiff]
    refine ⟨⟨by omega, by omega⟩, ?_⟩
    refine ⟨rfl, oSet_lst (j := 1) hu rfl ?_⟩
    obtain ⟨v, hv, ev⟩ := nn b
    rw [ev]
    have dr : Drew st0 u (st0.set u (.lst [.int a, .int (b / n)])) := ⟨a, b / n, ha, Int.ediv_nonneg hb (by omega), rfl⟩
    exact exit_drew0 rfl dr (k v _ dr hv)
  · rw [decide_eq_false hpos]
    refine iteF (oIx_cel hu (i := 0) rfl rfl ?_)
    simp only [sIf, sSeq, sRet, sRetN, sAsg, sSet, sDrop, sNext, sNever, sPar, sFor, sFldD, mNot, mTv, mAnd, mOr, mAndV, mOrV, mNotV, mBin, mUn, mC, mCall, mCons, mNil, mTup, mLst, mLstC, mFn, mFnK, mCallL, mLenO, mLz, mIdx, DL.iZip, DL.iEnS, cSortT, mDic0, mDit0, gSubT, iCbR, cMinT, cMaxT, mIf, mChain, mFld, mIsC, mJoin, mSl, pNo, pSo, mLc, mLcC, mLc2, mLcK, mDc, mDcC, mIsi, mBack, mApp, mPop, mMake, mMeth, mHeard, iSeq, iRng1', iRng2', iEn, iCb, gNm, gTup1, gCons', gNil', gSub', mNm, mYes, startD, wipeD, isB, isI, isS, List.map_cons, List.map_nil, List.length_cons, List.length_nil, List.replicate_succ, List.replicate_zero, List.cons_append, List.nil_append, List.getElem?_cons_zero, List.getElem?_cons_succ, List.set_cons_zero, List.set_cons_succ, Nat.reduceAdd, Nat.reduceSub, if_true, true_and, ix20, ix21, oAdd_ii, oAdd_ss, oAdd_tt, oAdd_ll, oSub_ii, oMul_ii, oDiv_ii, oMod_ii, oPow_ii, oNeg_i, oLt_ii, oLe_ii, oGt_ii, oGe_ii, oEq_ii, oNe_ii, oEq_ss, oNe_ss, cInt_i, cInt_b, cAbs_i, cLen_s, cLen_l, cLen_f, cLen_t, cMin_2, cMax_2, cMax_3, cTuple_l, cTuple_t, cDivmod_ii, cListC_s, items_l, items_t, items_s, Nat.reduceLeDiff]
    refine ⟨.inl (.inr ⟨by decide, by decide⟩), by decide, oSet_lst (j := 0) hu rfl ?_⟩
    refine oIx_cel (set_at hu) (i := 0) rfl rfl ?_
    simp only [sIf, sSeq, sRet, sRetN, sAsg, sSet, sDrop, sNext, sNever, sPar, sFor, sFldD, mNot, mTv, mAnd, mOr, mAndV, mOrV, mNotV, mBin, mUn, mC, mCall, mCons, mNil, mTup, mLst, mLstC, mFn, mFnK, mCallL, mLenO, mLz, mIdx, DL.iZip, DL.iEnS, cSortT, mDic0, mDit0, gSubT, iCbR, cMinT, cMaxT, mIf, mChain, mFld, mIsC, mJoin, mSl, pNo, pSo, mLc, mLcC, mLc2, mLcK, mDc, mDcC, mIsi, mBack, mApp, mPop, mMake, mMeth, mHeard, iSeq, iRng1', iRng2', iEn, iCb, gNm, gTup1, gCons', gNil', gSub', mNm, mYes, startD, wipeD, isB, isI, isS, List.map_cons, List.map_nil, List.length_cons, List.length_nil, List.replicate_succ, List.replicate_zero, List.cons_append, List.nil_append, List.getElem?_cons_zero, List.getElem?_cons_succ, List.set_cons_zero, List.set_cons_succ, Nat.reduceAdd, Nat.reduceSub, if_true, true_and, ix20, ix21, oAdd_ii, oAdd_ss, oAdd_tt, oAdd_ll, oSub_ii, oMul_ii, oDiv_ii, oMod_ii, oPow_ii, oNeg_i, oLt_ii, oLe_ii, oGt_ii, oGe_ii, oEq_ii, oNe_ii, oEq_ss, oNe_ss, cInt_i, cInt_b, cAbs_i, cLen_s, cLen_l, cLen_f, cLen_t, cMin_2, cMax_2, cMax_3, cTuple_l, cTuple_t, cDivmod_ii, cListC_s, items_l, items_t, items_s, Nat.reduceLeDiff]
    refine ⟨⟨by decide, by decide⟩, by omega, ?_⟩
    obtain ⟨v, hv, ev⟩ := nn ((a * 16807 + 12345) % 2147483647 / 4099)
    rw [ev]
    have dr : Drew st0 u (st0.set u (.lst [.int ((a * 16807 + 12345) % 2147483647), .int b])) := ⟨_, b, Int.emod_nonneg _ (by decide), hb, rfl⟩
    exact exit_drew0 rfl dr (k v _ dr hv)
theorem ok_law_pick (F : Fun K "_law_pick" "_law_pick" s_law_pick f fd) (T : Txt K mg C) (C_law_cast : CanD P w K mg base 1 "_law_cast" s_law_cast ["_law_urn_here", "_law_size"] S_law_cast) : FnOk P w K mg base CX0 2 f fd ["_law_urn_here", "_law_items"] (spD K 2 S_law_pick) := by
  refine fnF F sc_law_pick (fun cdv A outer s H E hr => (dss_one (ds_ret (de_ix (hu1 hr) (dv 1) (de_fn C_law_cast (hr.mono (by decide)) (da_cons (dv 0) (da_cons (de_callB (dc_len (K := K)) T.len (da_cons (dv 1) da_nil)) da_nil))))))) ?_
  rintro st0 ds Qd _ ⟨u, d, xs, rfl, hu, hp, hx, hl, hpl, k⟩
  simp only [sIf, sSeq, sRet, sRetN, sAsg, sSet, sDrop, sNext, sNever, sPar, sFor, sFldD, mNot, mTv, mAnd, mOr, mAndV, mOrV, mNotV, mBin, mUn, mC, mCall, mCons, mNil, mTup, mLst, mLstC, mFn, mFnK, mCallL, mLenO, mLz, mIdx, DL.iZip, DL.iEnS, cSortT, mDic0, mDit0, gSubT, iCbR, cMinT, cMaxT, mIf, mChain, mFld, mIsC, mJoin, mSl, pNo, pSo, mLc, mLcC, mLc2, mLcK, mDc, mDcC, mIsi, mBack, mApp, mPop, mMake, mMeth, mHeard, iSeq, iRng1', iRng2', iEn, iCb, gNm, gTup1, gCons', gNil', gSub', mNm, mYes, startD, wipeD, isB, isI, isS, List.map_cons, List.map_nil, List.length_cons, List.length_nil, List.replicate_succ, List.replicate_zero, List.cons_append, List.nil_append, List.getElem?_cons_zero, List.getElem?_cons_succ, List.set_cons_zero, List.set_cons_succ, Nat.reduceAdd, Nat.reduceSub, if_true, true_and, ix20, ix21, oAdd_ii, oAdd_ss, oAdd_tt, oAdd_ll, oSub_ii, oMul_ii, oDiv_ii, oMod_ii, oPow_ii, oNeg_i, oLt_ii, oLe_ii, oGt_ii, oGe_ii, oEq_ii, oNe_ii, oEq_ss, oNe_ss, cInt_i, cInt_b, cAbs_i, cLen_s, cLen_l, cLen_f, cLen_t, cMin_2, cMax_2, cMax_3, cTuple_l, cTuple_t, cDivmod_ii, cListC_s, items_l, items_t, items_s, Nat.reduceLeDiff]
  have hpos : 0 < xs.length := List.length_pos_iff.mpr hx
  have cast : ∀ (Q : QD), (∀ (v : Nat) st', Drew st0 u st' → v < xs.length → Q (.int v) st') → S_law_cast st0 [.cel u, .int xs.length] Q := fun Q q => ⟨u, xs.length, rfl, hu, hpos, by omega, q⟩
  have fin : ∀ (v : Nat) (st' : Store) (h : v < xs.length), Drew st0 u st' → exitF st0 Qd xs[v] st' := fun v st' h dr => by
    have hm : xs[v] ∈ xs := List.getElem_mem h
    exact exit_drew0 (plL_mem hpl _ hm) dr (k _ _ dr hm)
  rcases hp with ⟨l, rfl, rfl⟩ | rfl | rfl
  · have el : (l.map fun c => D.str [c]).length = l.length := List.length_map _
    refine ⟨by omega, ?_⟩
    rw [← el]
    refine cast _ fun v st' dr hv => ?_
    have hv' : v < l.length := by rw [← el]; exact hv
    refine oIx_str rfl (List.getElem?_eq_getElem hv') (by omega) ?_
    have := fin v st' hv dr
    rw [List.getElem_map] at this
    exact this
  · rw [cLen_l]
    refine cast _ fun v st' dr hv => ?_
    exact oIx_seq (d := .lst xs) (.inl rfl) rfl (List.getElem?_eq_getElem hv) (fin v st' hv dr)
  · rw [cLen_t]
    refine cast _ fun v st' dr hv => ?_
    exact oIx_seq (d := .tup xs) (.inr rfl) rfl (List.getElem?_eq_getElem hv) (fin v st' hv dr)
theorem ok_law_shuffled (F : Fun K "_law_shuffled" "_law_shuffled" s_law_shuffled f fd) (T : Txt K mg C) (C_law_cast : CanD P w K mg base 1 "_law_cast" s_law_cast ["_law_urn_here", "_law_size"] S_law_cast) : FnOk P w K mg base CX0 2 f fd ["_law_urn_here", "_law_items"] (spD K 2 S_law_shuffled) := by
  refine fnF F sc_law_shuffled (fun cdv A outer s H E hr => (dss_cons (ds_par (i := 2) (j := 3) rfl sc_law_shuffled.nd rfl rfl (by decide) rfl rfl (da_cons (de_callTy (dc_listC (K := K) rfl) T.list (da_cons (dv 1) da_nil)) (da_cons (de_lstC da_nil) da_nil)))
  (dss_cons (ds_for PassesOwn.never rfl (di_range1 T.range (de_callB (dc_len (K := K)) T.len (da_cons (dv 1) da_nil))) (dg_nm (i := 4) sc_law_shuffled.nd rfl (Or.inl rfl) (Or.inr rfl)) (dss_one (ds_expr (de_app (dv 3) (de_pop (dv 2) (de_fn C_law_cast (hr.mono (by decide)) (da_cons (dv 0) (da_cons (de_callB (dc_len (K := K)) T.len (da_cons (dv 2) da_nil)) da_nil))))))))
  (dss_one (ds_ret (dv 3)))))) ?_
  rintro st0 ds Qd _ ⟨u, l, rfl, hu, hl, k⟩
  simp only [sIf, sSeq, sRet, sRetN, sAsg, sSet, sDrop, sNext, sNever, sPar, sFor, sFldD, mNot, mTv, mAnd, mOr, mAndV, mOrV, mNotV, mBin, mUn, mC, mCall, mCons, mNil, mTup, mLst, mLstC, mFn, mFnK, mCallL, mLenO, mLz, mIdx, DL.iZip, DL.iEnS, cSortT, mDic0, mDit0, gSubT, iCbR, cMinT, cMaxT, mIf, mChain, mFld, mIsC, mJoin, mSl, pNo, pSo, mLc, mLcC, mLc2, mLcK, mDc, mDcC, mIsi, mBack, mApp, mPop, mMake, mMeth, mHeard, iSeq, iRng1', iRng2', iEn, iCb, gNm, gTup1, gCons', gNil', gSub', mNm, mYes, startD, wipeD, isB, isI, isS, List.map_cons, List.map_nil, List.length_cons, List.length_nil, List.replicate_succ, List.replicate_zero, List.cons_append, List.nil_append, List.getElem?_cons_zero, List.getElem?_cons_succ, List.set_cons_zero, List.set_cons_succ, Nat.reduceAdd, Nat.reduceSub, if_true, true_and, ix20, ix21, oAdd_ii, oAdd_ss, oAdd_tt, oAdd_ll, oSub_ii, oMul_ii, oDiv_ii, oMod_ii, oPow_ii, oNeg_i, oLt_ii, oLe_ii, oGt_ii, oGe_ii, oEq_ii, oNe_ii, oEq_ss, oNe_ss, cInt_i, cInt_b, cAbs_i, cLen_s, cLen_l, cLen_f, cLen_t, cMin_2, cMax_2, cMax_3, cTuple_l, cTuple_t, cDivmod_ii, cListC_s, items_l, items_t, items_s, Nat.reduceLeDiff]
  have hul := hu.lt
  refine ⟨hl, by omega, ⟨by omega, by omega⟩, ?_⟩
  refine forD_rel0 (l := List.range (l.length : Int).toNat) (e := fun (i : Nat) => D.int (0 + i)) (fun i ρ st => ∃ (st1 : Store) (pool row : List Nat) (y : Option D), Drew st0 u st1 ∧ st = st1 ++ [.lst (sg pool), .lst (sg row)] ∧ (row ++ pool).Perm l ∧ row.length = i ∧ ρ = [some (.cel u), some (.str l), some (.cel st0.length), some (.cel (st0.length + 1)), y]) ⟨st0, l, [], none, .refl hu, ?_, List.Perm.refl _, rfl, ?_⟩ ?_ ?_
  · rw [List.append_assoc]; rfl
  · rw [List.length_append]; rfl
  · rintro j i ρ st hj ⟨st1, pool, row, y, dr, rfl, hp, hr, rfl⟩
    obtain ⟨rfl, hi⟩ := rng_get hj
    refine ⟨trivial, fun N hN => ?_⟩
    have hpl : row.length + pool.length = l.length := by have := hp.length_eq; rw [List.length_append] at this; exact this
    have hlen := dr.len
    simp only [sIf, sSeq, sRet, sRetN, sAsg, sSet, sDrop, sNext, sNever, sPar, sFor, sFldD, mNot, mTv, mAnd, mOr, mAndV, mOrV, mNotV, mBin, mUn, mC, mCall, mCons, mNil, mTup, mLst, mLstC, mFn, mFnK, mCallL, mLenO, mLz, mIdx, DL.iZip, DL.iEnS, cSortT, mDic0, mDit0, gSubT, iCbR, cMinT, cMaxT, mIf, mChain, mFld, mIsC, mJoin, mSl, pNo, pSo, mLc, mLcC, mLc2, mLcK, mDc, mDcC, mIsi, mBack, mApp, mPop, mMake, mMeth, mHeard, iSeq, iRng1', iRng2', iEn, iCb, gNm, gTup1, gCons', gNil', gSub', mNm, mYes, startD, wipeD, isB, isI, isS, List.map_cons, List.map_nil, List.length_cons, List.length_nil, List.replicate_succ, List.replicate_zero, List.cons_append, List.nil_append, List.getElem?_cons_zero, List.getElem?_cons_succ, List.set_cons_zero, List.set_cons_succ, Nat.reduceAdd, Nat.reduceSub, if_true, true_and, ix20, ix21, oAdd_ii, oAdd_ss, oAdd_tt, oAdd_ll, oSub_ii, oMul_ii, oDiv_ii, oMod_ii, oPow_ii, oNeg_i, oLt_ii, oLe_ii, oGt_ii, oGe_ii, oEq_ii, oNe_ii, oEq_ss, oNe_ss, cInt_i, cInt_b, cAbs_i, cLen_s, cLen_l, cLen_f, cLen_t, cMin_2, cMax_2, cMax_3, cTuple_l, cTuple_t, cDivmod_ii, cListC_s, items_l, items_t, items_s, Nat.reduceLeDiff]
    rw [← hlen]
    refine isCel_of two_at1 ?_
    refine isCel_of two_at0 ?_
    refine cLen_c two_at0 ?_
    rw [sg_len]
    have hu1 := hu.drew dr
    refine ⟨u, pool.length, rfl, hu1.ext _, by omega, by omega, fun v st' dr' hv => ?_⟩
    obtain ⟨st2, dr2, rfl⟩ := dr'.ext hu1
    have hlen2 := dr2.len
    rw [← hlen2]
    refine isCel_of two_at0 ?_
    refine ⟨⟨by omega, by omega⟩, ?_⟩
    have ev : (v : Int).toNat = v := by omega
    rw [ev, sg_get, List.getElem?_eq_getElem hv, sg_erase, two_set0]
    refine isCel_of two_at1 ?_
    refine ⟨by rw [sg_len]; omega, ?_⟩
    rw [two_set1]
    refine hN _ _ ⟨st2, pool.eraseIdx v, row ++ [pool[v]], some (.int (0 + (i : Nat))), dr.trans dr2, ?_, ?_, ?_, ?_⟩
    · unfold sg; rw [List.map_append]; rfl
    · rw [List.append_assoc]
      exact ((erase_perm pool v hv).append_left row).trans hp
    · rw [List.length_append, List.length_singleton, hr]
    · rw [hlen2, hlen]
  · rintro ρ st ⟨st1, pool, row, y, dr, rfl, hp, hr, rfl⟩
    refine ⟨trivial, ?_⟩
    have hlen := dr.len
    have hpl : row.length + pool.length = l.length := by have := hp.length_eq; rw [List.length_append] at this; exact this
    rw [List.length_range] at hr
    have : pool = [] := List.eq_nil_of_length_eq_zero (by omega)
    subst this
    rw [List.append_nil] at hp
    obtain ⟨a, b, h1, h2, rfl⟩ := id dr
    refine exit_gen (d' := .lst (sg row)) (st' := st0.set u (.lst [.int a, .int b])) ?_ (pl.clo _ (sg_pl row)) (old_set (clo_urn _ a b)) take_set (k row _ dr hp)
    refine fz1_cel (by omega) ?_
    rw [← hlen, two_at1]
theorem ok_law_names (F : Fun K "_law_names" "_law_names" s_law_names f fd) (T : Txt K mg C) (C_law_cast : CanD P w K mg base 1 "_law_cast" s_law_cast ["_law_urn_here", "_law_size"] S_law_cast) (C_law_shuffled : CanD P w K mg base 2 "_law_shuffled" s_law_shuffled ["_law_urn_here", "_law_items"] S_law_shuffled) : FnOk P w K mg base CX0 3 f fd ["_law_urn_here", "_law_least", "_law_most"] (spD K 3 S_law_names) := by
  refine fnF F sc_law_names (fun cdv A outer s H E hr => (dss_cons (ds_set (i := 3) sc_law_names.nd rfl (Or.inl rfl) de_str)
  (dss_cons (ds_set (i := 4) sc_law_names.nd rfl (Or.inl rfl) (de_bin (do_add (K := K)) (dv 1) (de_fn C_law_cast (hr.mono (by decide)) (da_cons (dv 0) (da_cons (de_bin (do_add (K := K)) (de_bin do_sub (dv 2) (dv 1)) de_int) da_nil)))))
  (dss_cons (ds_if (dt_cmp (do_eq (K := K) hr.units) (de_fn C_law_cast (hr.mono (by decide)) (da_cons (dv 0) (da_cons de_int da_nil))) de_int (nomark _)) (dss_one (ds_ret (de_sl (dv 3) dp_no (dp_so (dv 4))))) dss_nil)
  (dss_one (ds_ret (de_join de_str (de_callB (dc_sorted (K := K)) T.sorted (da_cons (de_sl (de_fn C_law_shuffled (hr.mono (by decide)) (da_cons (dv 0) (da_cons (dv 3) da_nil))) dp_no (dp_so (dv 4))) da_nil))))))))) ?_
  rintro st0 ds Qd _ ⟨u, a, b, rfl, hu, hab, hb, k⟩
  simp only [sIf, sSeq, sRet, sRetN, sAsg, sSet, sDrop, sNext, sNever, sPar, sFor, sFldD, mNot, mTv, mAnd, mOr, mAndV, mOrV, mNotV, mBin, mUn, mC, mCall, mCons, mNil, mTup, mLst, mLstC, mFn, mFnK, mCallL, mLenO, mLz, mIdx, DL.iZip, DL.iEnS, cSortT, mDic0, mDit0, gSubT, iCbR, cMinT, cMaxT, mIf, mChain, mFld, mIsC, mJoin, mSl, pNo, pSo, mLc, mLcC, mLc2, mLcK, mDc, mDcC, mIsi, mBack, mApp, mPop, mMake, mMeth, mHeard, iSeq, iRng1', iRng2', iEn, iCb, gNm, gTup1, gCons', gNil', gSub', mNm, mYes, startD, wipeD, isB, isI, isS, List.map_cons, List.map_nil, List.length_cons, List.length_nil, List.replicate_succ, List.replicate_zero, List.cons_append, List.nil_append, List.getElem?_cons_zero, List.getElem?_cons_succ, List.set_cons_zero, List.set_cons_succ, Nat.reduceAdd, Nat.reduceSub, if_true, true_and, ix20, ix21, oAdd_ii, oAdd_ss, oAdd_tt, oAdd_ll, oSub_ii, oMul_ii, oDiv_ii, oMod_ii, oPow_ii, oNeg_i, oLt_ii, oLe_ii, oGt_ii, oGe_ii, oEq_ii, oNe_ii, oEq_ss, oNe_ss, cInt_i, cInt_b, cAbs_i, cLen_s, cLen_l, cLen_f, cLen_t, cMin_2, cMax_2, cMax_3, cTuple_l, cTuple_t, cDivmod_ii, cListC_s, items_l, items_t, items_s, Nat.reduceLeDiff]
  have hL : (("abcdefghijklmnopqrstuvwxyz" : Str).cps.toList) = lettersL := by decide +kernel
  rw [hL]
  have e1 : ((b : Int) - (a : Int) + 1) = ((b - a + 1 : Nat) : Int) := by omega
  rw [e1]
  refine ⟨u, b - a + 1, rfl, hu, by omega, by omega, fun v st1 dr1 hv => ?_⟩
  simp only [sIf, sSeq, sRet, sRetN, sAsg, sSet, sDrop, sNext, sNever, sPar, sFor, sFldD, mNot, mTv, mAnd, mOr, mAndV, mOrV, mNotV, mBin, mUn, mC, mCall, mCons, mNil, mTup, mLst, mLstC, mFn, mFnK, mCallL, mLenO, mLz, mIdx, DL.iZip, DL.iEnS, cSortT, mDic0, mDit0, gSubT, iCbR, cMinT, cMaxT, mIf, mChain, mFld, mIsC, mJoin, mSl, pNo, pSo, mLc, mLcC, mLc2, mLcK, mDc, mDcC, mIsi, mBack, mApp, mPop, mMake, mMeth, mHeard, iSeq, iRng1', iRng2', iEn, iCb, gNm, gTup1, gCons', gNil', gSub', mNm, mYes, startD, wipeD, isB, isI, isS, List.map_cons, List.map_nil, List.length_cons, List.length_nil, List.replicate_succ, List.replicate_zero, List.cons_append, List.nil_append, List.getElem?_cons_zero, List.getElem?_cons_succ, List.set_cons_zero, List.set_cons_succ, Nat.reduceAdd, Nat.reduceSub, if_true, true_and, ix20, ix21, oAdd_ii, oAdd_ss, oAdd_tt, oAdd_ll, oSub_ii, oMul_ii, oDiv_ii, oMod_ii, oPow_ii, oNeg_i, oLt_ii, oLe_ii, oGt_ii, oGe_ii, oEq_ii, oNe_ii, oEq_ss, oNe_ss, cInt_i, cInt_b, cAbs_i, cLen_s, cLen_l, cLen_f, cLen_t, cMin_2, cMax_2, cMax_3, cTuple_l, cTuple_t, cDivmod_ii, cListC_s, items_l, items_t, items_s, Nat.reduceLeDiff]
  have e2 : (a : Int) + (v : Int) = ((a + v : Nat) : Int) := by omega
  rw [e2]
  have hu1 := hu.drew dr1
  refine ⟨u, 2, rfl, hu1, by decide, by decide, fun v2 st2 dr2 hv2 => ?_⟩
  simp only [sIf, sSeq, sRet, sRetN, sAsg, sSet, sDrop, sNext, sNever, sPar, sFor, sFldD, mNot, mTv, mAnd, mOr, mAndV, mOrV, mNotV, mBin, mUn, mC, mCall, mCons, mNil, mTup, mLst, mLstC, mFn, mFnK, mCallL, mLenO, mLz, mIdx, DL.iZip, DL.iEnS, cSortT, mDic0, mDit0, gSubT, iCbR, cMinT, cMaxT, mIf, mChain, mFld, mIsC, mJoin, mSl, pNo, pSo, mLc, mLcC, mLc2, mLcK, mDc, mDcC, mIsi, mBack, mApp, mPop, mMake, mMeth, mHeard, iSeq, iRng1', iRng2', iEn, iCb, gNm, gTup1, gCons', gNil', gSub', mNm, mYes, startD, wipeD, isB, isI, isS, List.map_cons, List.map_nil, List.length_cons, List.length_nil, List.replicate_succ, List.replicate_zero, List.cons_append, List.nil_append, List.getElem?_cons_zero, List.getElem?_cons_succ, List.set_cons_zero, List.set_cons_succ, Nat.reduceAdd, Nat.reduceSub, if_true, true_and, ix20, ix21, oAdd_ii, oAdd_ss, oAdd_tt, oAdd_ll, oSub_ii, oMul_ii, oDiv_ii, oMod_ii, oPow_ii, oNeg_i, oLt_ii, oLe_ii, oGt_ii, oGe_ii, oEq_ii, oNe_ii, oEq_ss, oNe_ss, cInt_i, cInt_b, cAbs_i, cLen_s, cLen_l, cLen_f, cLen_t, cMin_2, cMax_2, cMax_3, cTuple_l, cTuple_t, cDivmod_ii, cListC_s, items_l, items_t, items_s, Nat.reduceLeDiff]
  have hlen : lettersL.length = 26 := by decide +kernel
  have pre := List.all_eq_true.mp letters_pre (a + v) (List.mem_range.mpr (by omega))
  rw [Bool.and_eq_true] at pre
  have dr12 := dr1.trans dr2
  have hu2 := hu1.drew dr2
  cases hz : decide ((v2 : Int) = 0)
  · refine iteF ⟨u, lettersL, rfl, hu2, by rw [hlen]; decide, fun row st3 dr3 hp => ?_⟩
    simp only [sIf, sSeq, sRet, sRetN, sAsg, sSet, sDrop, sNext, sNever, sPar, sFor, sFldD, mNot, mTv, mAnd, mOr, mAndV, mOrV, mNotV, mBin, mUn, mC, mCall, mCons, mNil, mTup, mLst, mLstC, mFn, mFnK, mCallL, mLenO, mLz, mIdx, DL.iZip, DL.iEnS, cSortT, mDic0, mDit0, gSubT, iCbR, cMinT, cMaxT, mIf, mChain, mFld, mIsC, mJoin, mSl, pNo, pSo, mLc, mLcC, mLc2, mLcK, mDc, mDcC, mIsi, mBack, mApp, mPop, mMake, mMeth, mHeard, iSeq, iRng1', iRng2', iEn, iCb, gNm, gTup1, gCons', gNil', gSub', mNm, mYes, startD, wipeD, isB, isI, isS, List.map_cons, List.map_nil, List.length_cons, List.length_nil, List.replicate_succ, List.replicate_zero, List.cons_append, List.nil_append, List.getElem?_cons_zero, List.getElem?_cons_succ, List.set_cons_zero, List.set_cons_succ, Nat.reduceAdd, Nat.reduceSub, if_true, true_and, ix20, ix21, oAdd_ii, oAdd_ss, oAdd_tt, oAdd_ll, oSub_ii, oMul_ii, oDiv_ii, oMod_ii, oPow_ii, oNeg_i, oLt_ii, oLe_ii, oGt_ii, oGe_ii, oEq_ii, oNe_ii, oEq_ss, oNe_ss, cInt_i, cInt_b, cAbs_i, cLen_s, cLen_l, cLen_f, cLen_t, cMin_2, cMax_2, cMax_3, cTuple_l, cTuple_t, cDivmod_ii, cListC_s, items_l, items_t, items_s, Nat.reduceLeDiff]
    have hrl : row.length = 26 := by rw [hp.length_eq, hlen]
    rw [slD_lst, cut_to]
    have e3 : (sg row).take (a + v) = ((row.take (a + v)).map fun c => [c]).map D.str := by
      unfold sg; rw [← List.map_take, List.map_map]; rfl
    rw [e3]
    have tl : (row.take (a + v)).length = a + v := by rw [List.length_take, hrl]; omega
    have nd : (row.take (a + v)).Nodup := (List.take_sublist _ _).nodup (hp.nodup_iff.mpr letters_nd)
    obtain ⟨l1, l2, l3⟩ := lot_of nd (fun c hc => hp.mem_iff.mp (List.mem_of_mem_take hc))
    refine cSorted_strs (by rw [List.length_map, tl]; omega) ?_
    refine joinK_strs ?_ ?_
    · rw [← List.length_flatten, l1, l3, tl]; omega
    · rw [l1]
      have dr := dr12.trans dr3
      exact exit_drew0 rfl dr (k _ _ dr ⟨l2, by rw [l3, tl]; omega, by rw [l3, tl]; omega⟩)
  · refine iteT (slD_str (by rw [hlen]; decide) ?_)
    rw [cut_to]
    exact exit_drew0 rfl dr12 (k _ _ dr12 ⟨pre.1, by rw [of_decide_eq_true pre.2]; omega, by rw [of_decide_eq_true pre.2]; omega⟩)
theorem ok_law_twos (F : Fun K "_law_twos" "_law_twos" s_law_twos f fd) (T : Txt K mg C)  : FnOk P w K mg base CX0 1 f fd ["_law_names_here"] (spD K 1 S_law_twos) := by
  refine fnF F sc_law_twos (fun cdv A outer s H E hr => (dss_cons (ds_set (i := 1) sc_law_twos.nd rfl (Or.inl rfl) (de_lst da_nil))
  (dss_cons (ds_for PassesOwn.never rfl (di_range1 T.range (de_callB (dc_len (K := K)) T.len (da_cons (dv 0) da_nil))) (dg_nm (i := 2) sc_law_twos.nd rfl (Or.inr rfl) (Or.inl rfl)) (dss_one (ds_set (i := 1) sc_law_twos.nd rfl (Or.inl rfl) (de_bin (do_add (K := K)) (dv 1) (de_lc (own := [("_law_mate", 3)]) rfl sc_law_twos.nd (di_seq (de_sl (dv 0) (dp_so (de_bin (do_add (K := K)) (dv 2) de_int)) dp_no)) (blkOk_by (own := [("_law_mate", 3)]) (N := N_law_twos) (sc := defScope s_law_twos) (by decide +kernel)) (tof_nm (i := 3)) (fun _ _ _ _ _ => (pg_name (i := 3) sc_law_twos.nd rfl (Or.inl rfl) (Or.inr rfl))) (fun _ _ _ _ _ => dts_nil) (fun _ _ _ _ _ => (de_bin (do_add (K := K)) (de_ix (hu1 hr) (dv 0) (dv 2)) (dv 3))))))))
  (dss_one (ds_ret (dv 1)))))) ?_
  rintro st0 ds Qd _ ⟨l, rfl, hl, k⟩
  simp only [sIf, sSeq, sRet, sRetN, sAsg, sSet, sDrop, sNext, sNever, sPar, sFor, sFldD, mNot, mTv, mAnd, mOr, mAndV, mOrV, mNotV, mBin, mUn, mC, mCall, mCons, mNil, mTup, mLst, mLstC, mFn, mFnK, mCallL, mLenO, mLz, mIdx, DL.iZip, DL.iEnS, cSortT, mDic0, mDit0, gSubT, iCbR, cMinT, cMaxT, mIf, mChain, mFld, mIsC, mJoin, mSl, pNo, pSo, mLc, mLcC, mLc2, mLcK, mDc, mDcC, mIsi, mBack, mApp, mPop, mMake, mMeth, mHeard, iSeq, iRng1', iRng2', iEn, iCb, gNm, gTup1, gCons', gNil', gSub', mNm, mYes, startD, wipeD, isB, isI, isS, List.map_cons, List.map_nil, List.length_cons, List.length_nil, List.replicate_succ, List.replicate_zero, List.cons_append, List.nil_append, List.getElem?_cons_zero, List.getElem?_cons_succ, List.set_cons_zero, List.set_cons_succ, Nat.reduceAdd, Nat.reduceSub, if_true, true_and, ix20, ix21, oAdd_ii, oAdd_ss, oAdd_tt, oAdd_ll, oSub_ii, oMul_ii, oDiv_ii, oMod_ii, oPow_ii, oNeg_i, oLt_ii, oLe_ii, oGt_ii, oGe_ii, oEq_ii, oNe_ii, oEq_ss, oNe_ss, cInt_i, cInt_b, cAbs_i, cLen_s, cLen_l, cLen_f, cLen_t, cMin_2, cMax_2, cMax_3, cTuple_l, cTuple_t, cDivmod_ii, cListC_s, items_l, items_t, items_s, Nat.reduceLeDiff]
  refine ⟨by omega, ⟨by omega, by omega⟩, ?_⟩
  refine forD_rel0 (l := List.range (l.length : Int).toNat) (e := fun (i : Nat) => D.int (0 + i)) (fun i ρ st => st = st0 ∧ ∃ y, ρ = [some (.str l), some (.lst ((twosTo l i).map D.str)), y, none]) ⟨rfl, none, rfl⟩ ?_ ?_
  · rintro j i ρ st hj ⟨rfl, y, rfl⟩
    obtain ⟨rfl, hi⟩ := rng_get hj
    have hi2 : i < l.length := by omega
    refine ⟨trivial, fun N hN => ?_⟩
    simp only [sIf, sSeq, sRet, sRetN, sAsg, sSet, sDrop, sNext, sNever, sPar, sFor, sFldD, mNot, mTv, mAnd, mOr, mAndV, mOrV, mNotV, mBin, mUn, mC, mCall, mCons, mNil, mTup, mLst, mLstC, mFn, mFnK, mCallL, mLenO, mLz, mIdx, DL.iZip, DL.iEnS, cSortT, mDic0, mDit0, gSubT, iCbR, cMinT, cMaxT, mIf, mChain, mFld, mIsC, mJoin, mSl, pNo, pSo, mLc, mLcC, mLc2, mLcK, mDc, mDcC, mIsi, mBack, mApp, mPop, mMake, mMeth, mHeard, iSeq, iRng1', iRng2', iEn, iCb, gNm, gTup1, gCons', gNil', gSub', mNm, mYes, startD, wipeD, isB, isI, isS, List.map_cons, List.map_nil, List.length_cons, List.length_nil, List.replicate_succ, List.replicate_zero, List.cons_append, List.nil_append, List.getElem?_cons_zero, List.getElem?_cons_succ, List.set_cons_zero, List.set_cons_succ, Nat.reduceAdd, Nat.reduceSub, if_true, true_and, ix20, ix21, oAdd_ii, oAdd_ss, oAdd_tt, oAdd_ll, oSub_ii, oMul_ii, oDiv_ii, oMod_ii, oPow_ii, oNeg_i, oLt_ii, oLe_ii, oGt_ii, oGe_ii, oEq_ii, oNe_ii, oEq_ss, oNe_ss, cInt_i, cInt_b, cAbs_i, cLen_s, cLen_l, cLen_f, cLen_t, cMin_2, cMax_2, cMax_3, cTuple_l, cTuple_t, cDivmod_ii, cListC_s, items_l, items_t, items_s, Nat.reduceLeDiff]
    refine slD_str (by omega) ?_
    have e1 : (0 : Int) + (i : Int) + 1 = ((i + 1 : Nat) : Int) := by omega
    rw [e1, cut_fromN]
    simp only [sIf, sSeq, sRet, sRetN, sAsg, sSet, sDrop, sNext, sNever, sPar, sFor, sFldD, mNot, mTv, mAnd, mOr, mAndV, mOrV, mNotV, mBin, mUn, mC, mCall, mCons, mNil, mTup, mLst, mLstC, mFn, mFnK, mCallL, mLenO, mLz, mIdx, DL.iZip, DL.iEnS, cSortT, mDic0, mDit0, gSubT, iCbR, cMinT, cMaxT, mIf, mChain, mFld, mIsC, mJoin, mSl, pNo, pSo, mLc, mLcC, mLc2, mLcK, mDc, mDcC, mIsi, mBack, mApp, mPop, mMake, mMeth, mHeard, iSeq, iRng1', iRng2', iEn, iCb, gNm, gTup1, gCons', gNil', gSub', mNm, mYes, startD, wipeD, isB, isI, isS, List.map_cons, List.map_nil, List.length_cons, List.length_nil, List.replicate_succ, List.replicate_zero, List.cons_append, List.nil_append, List.getElem?_cons_zero, List.getElem?_cons_succ, List.set_cons_zero, List.set_cons_succ, Nat.reduceAdd, Nat.reduceSub, if_true, true_and, ix20, ix21, oAdd_ii, oAdd_ss, oAdd_tt, oAdd_ll, oSub_ii, oMul_ii, oDiv_ii, oMod_ii, oPow_ii, oNeg_i, oLt_ii, oLe_ii, oGt_ii, oGe_ii, oEq_ii, oNe_ii, oEq_ss, oNe_ss, cInt_i, cInt_b, cAbs_i, cLen_s, cLen_l, cLen_f, cLen_t, cMin_2, cMax_2, cMax_3, cTuple_l, cTuple_t, cDivmod_ii, cListC_s, items_l, items_t, items_s, Nat.reduceLeDiff]
    refine ⟨by rw [List.length_map, List.length_drop]; omega, ?_⟩
    have hg : l[i]? = some (l.getD i 0) := by rw [List.getD_eq_getElem?_getD, List.getElem?_eq_getElem hi2]; rfl
    refine lcD_m (f := fun m => D.str [l.getD i 0, m]) (fun m hm K1 q => ?_) trivial ?_
    · simp only [sIf, sSeq, sRet, sRetN, sAsg, sSet, sDrop, sNext, sNever, sPar, sFor, sFldD, mNot, mTv, mAnd, mOr, mAndV, mOrV, mNotV, mBin, mUn, mC, mCall, mCons, mNil, mTup, mLst, mLstC, mFn, mFnK, mCallL, mLenO, mLz, mIdx, DL.iZip, DL.iEnS, cSortT, mDic0, mDit0, gSubT, iCbR, cMinT, cMaxT, mIf, mChain, mFld, mIsC, mJoin, mSl, pNo, pSo, mLc, mLcC, mLc2, mLcK, mDc, mDcC, mIsi, mBack, mApp, mPop, mMake, mMeth, mHeard, iSeq, iRng1', iRng2', iEn, iCb, gNm, gTup1, gCons', gNil', gSub', mNm, mYes, startD, wipeD, isB, isI, isS, List.map_cons, List.map_nil, List.length_cons, List.length_nil, List.replicate_succ, List.replicate_zero, List.cons_append, List.nil_append, List.getElem?_cons_zero, List.getElem?_cons_succ, List.set_cons_zero, List.set_cons_succ, Nat.reduceAdd, Nat.reduceSub, if_true, true_and, ix20, ix21, oAdd_ii, oAdd_ss, oAdd_tt, oAdd_ll, oSub_ii, oMul_ii, oDiv_ii, oMod_ii, oPow_ii, oNeg_i, oLt_ii, oLe_ii, oGt_ii, oGe_ii, oEq_ii, oNe_ii, oEq_ss, oNe_ss, cInt_i, cInt_b, cAbs_i, cLen_s, cLen_l, cLen_f, cLen_t, cMin_2, cMax_2, cMax_3, cTuple_l, cTuple_t, cDivmod_ii, cListC_s, items_l, items_t, items_s, Nat.reduceLeDiff]
      refine oIx_str (i := i) (Int.zero_add _) hg (by omega) ?_
      exact ⟨by show 1 + 1 ≤ 1000000; decide, q⟩
    · have hs := twos_small hl (Nat.le_of_lt hi2)
      refine ⟨by rw [List.length_map, List.length_map, List.length_drop]; omega, ?_⟩
      refine hN _ _ ⟨rfl, some (.int (0 + (i : Nat))), ?_⟩
      rw [twos_step, List.map_append, List.map_map]
      rfl
  · rintro ρ st ⟨rfl, y, rfl⟩
    refine ⟨trivial, ?_⟩
    simp only [sIf, sSeq, sRet, sRetN, sAsg, sSet, sDrop, sNext, sNever, sPar, sFor, sFldD, mNot, mTv, mAnd, mOr, mAndV, mOrV, mNotV, mBin, mUn, mC, mCall, mCons, mNil, mTup, mLst, mLstC, mFn, mFnK, mCallL, mLenO, mLz, mIdx, DL.iZip, DL.iEnS, cSortT, mDic0, mDit0, gSubT, iCbR, cMinT, cMaxT, mIf, mChain, mFld, mIsC, mJoin, mSl, pNo, pSo, mLc, mLcC, mLc2, mLcK, mDc, mDcC, mIsi, mBack, mApp, mPop, mMake, mMeth, mHeard, iSeq, iRng1', iRng2', iEn, iCb, gNm, gTup1, gCons', gNil', gSub', mNm, mYes, startD, wipeD, isB, isI, isS, List.map_cons, List.map_nil, List.length_cons, List.length_nil, List.replicate_succ, List.replicate_zero, List.cons_append, List.nil_append, List.getElem?_cons_zero, List.getElem?_cons_succ, List.set_cons_zero, List.set_cons_succ, Nat.reduceAdd, Nat.reduceSub, if_true, true_and, ix20, ix21, oAdd_ii, oAdd_ss, oAdd_tt, oAdd_ll, oSub_ii, oMul_ii, oDiv_ii, oMod_ii, oPow_ii, oNeg_i, oLt_ii, oLe_ii, oGt_ii, oGe_ii, oEq_ii, oNe_ii, oEq_ss, oNe_ss, cInt_i, cInt_b, cAbs_i, cLen_s, cLen_l, cLen_f, cLen_t, cMin_2, cMax_2, cMax_3, cTuple_l, cTuple_t, cDivmod_ii, cListC_s, items_l, items_t, items_s, Nat.reduceLeDiff]
    have e : (List.range (l.length : Int).toNat).length = l.length := by rw [List.length_range]; omega
    rw [e, twos_all, combIx_A]
    exact exit_pl (pl_strs _) k
end
end K20d
set_option Elab.async false
set_option linter.all false
set_option maxRecDepth 100000
set_option maxHeartbeats 4000000
namespace K20d
open PySem PySem.Spec PyProof.Rows L2 Nf DL Pd Nd Ld Cd
section
variable {P : Program} {w : World} {K : PySem.W.Frag} {mg : Str → Option Value} {base : Heap} {C : Addr} {f : Addr} {fd : FuncData}
theorem ok_law_both (F : Fun K "_law_both" "_law_both" s_law_both f fd) (T : Txt K mg C) (C_law_twos : CanD P w K mg base 1 "_law_twos" s_law_twos ["_law_names_here"] S_law_twos) : FnOk P w K mg base CX0 2 f fd ["_law_names_here", "_law_known"] (spD K 2 S_law_both) := by
  refine fnK F sc_law_both (fun cdv A outer s H E hr => (dss_cons (ds_set (i := 2) sc_law_both.nd rfl (Or.inl rfl) (de_callTy (dc_dictC (K := K) rfl) T.dict (da_cons (de_lc (own := [("_law_name", 3)]) rfl sc_law_both.nd (di_seq (dv 0)) (blkOk_by (own := [("_law_name", 3)]) (N := N_law_both) (sc := defScope s_law_both) (by decide +kernel)) (tof_nm (i := 3)) (fun _ _ _ _ _ => (pg_name (i := 3) sc_law_both.nd rfl (Or.inl rfl) (Or.inr rfl))) (fun _ _ _ _ _ => dts_nil) (fun _ _ _ _ _ => (de_tup (da_cons (de_bin (do_add (K := K)) (dv 3) (dv 3)) (da_cons de_int da_nil))))) da_nil)))
  (dss_cons (ds_for PassesOwn.never rfl (di_seq (de_fn C_law_twos (hr.mono (by decide)) (da_cons (dv 0) da_nil))) (dg_nm (i := 4) sc_law_both.nd rfl (Or.inl rfl) (Or.inr rfl)) (dss_one (ds_asg (de_tup (da_cons (de_ix (hu1 hr) (dv 1) (dv 4)) (da_cons (de_ix (hu1 hr) (dv 1) (dv 4)) da_nil))) (dg_tup1 (K := K) (n := 2) rfl (dgs_cons (dg_sub (dv 2) (dv 4) (dset (hu1 hr))) (dgs_cons (dg_sub (dv 2) (de_back (dv 4)) (dset (hu1 hr))) dgs_nil))))))
  (dss_one (ds_ret (dv 2)))))) ?_
  rintro st0 ds Qd _ ⟨l, fv, rfl, hn, hl, hv, k⟩
  simp only [sIf, sSeq, sRet, sRetN, sAsg, sSet, sDrop, sNext, sNever, sPar, sFor, sFldD, mNot, mTv, mAnd, mOr, mAndV, mOrV, mNotV, mBin, mUn, mC, mCall, mCons, mNil, mTup, mLst, mLstC, mFn, mFnK, mCallL, mLenO, mLz, mIdx, DL.iZip, DL.iEnS, cSortT, mDic0, mDit0, gSubT, iCbR, cMinT, cMaxT, mIf, mChain, mFld, mIsC, mJoin, mSl, pNo, pSo, mLc, mLcC, mLc2, mLcK, mDc, mDcC, mIsi, mBack, mApp, mPop, mMake, mMeth, mHeard, iSeq, iRng1', iRng2', iEn, iCb, gNm, gTup1, gCons', gNil', gSub', mNm, mYes, startD, wipeD, isB, isI, isS, List.map_cons, List.map_nil, List.length_cons, List.length_nil, List.replicate_succ, List.replicate_zero, List.cons_append, List.nil_append, List.getElem?_cons_zero, List.getElem?_cons_succ, List.set_cons_zero, List.set_cons_succ, Nat.reduceAdd, Nat.reduceSub, if_true, true_and, ix20, ix21, oAdd_ii, oAdd_ss, oAdd_tt, oAdd_ll, oSub_ii, oMul_ii, oDiv_ii, oMod_ii, oPow_ii, oNeg_i, oLt_ii, oLe_ii, oGt_ii, oGe_ii, oEq_ii, oNe_ii, oEq_ss, oNe_ss, cInt_i, cInt_b, cAbs_i, cLen_s, cLen_l, cLen_f, cLen_t, cMin_2, cMax_2, cMax_3, cTuple_l, cTuple_t, cDivmod_ii, cListC_s, items_l, items_t, items_s, Nat.reduceLeDiff]
  refine ⟨by rw [List.length_map]; omega, ?_⟩
  refine lcD_m (f := fun c => D.tup [.str [c, c], .int 0]) (fun c hc K1 q => ⟨by show 1 + 1 ≤ 1000000; decide, by show 2 ≤ 1000000; decide, q⟩) trivial ?_
  refine cDictC_map (k := fun c => [c, c]) (d := fun c => .int 0) ?_
  have e0 : mergeD [] (l.map fun c => ((Sum.inr [c, c] : DK), D.int 0)) = selfK l := by
    unfold mergeD selfK
    rw [List.foldl_map]
  rw [e0]
  refine ⟨l, rfl, hl, ?_⟩
  refine forD_rel0 (fun i ρ st => ∃ y, ρ = [some (.str l), some (.dic (knownK l fv)), some (.cel st0.length), none, y] ∧ st = st0 ++ [.dic ((((combA 2 l).map fun r => (r, fv r)).take i).foldl bothStep (selfK l))]) ⟨none, rfl, rfl⟩ ?_ ?_
  · rintro j r ρ st hj ⟨y, rfl, rfl⟩
    have hr := List.mem_of_getElem? hj
    refine ⟨trivial, fun N hN => ?_⟩
    have hln := bothS_len (((combA 2 l).map fun r => (r, fv r)).take j) (selfK l)
    have hsl := selfK_len l []
    rw [List.length_nil, Nat.zero_add] at hsl
    have hsl : (selfK l).length ≤ l.length := hsl
    have hc : (combA 2 l).length ≤ 35 := comb_le hl
    have ht : (((combA 2 l).map fun r => (r, fv r)).take j).length ≤ 35 := by rw [List.length_take, List.length_map]; omega
    have hnd : NdK ((((combA 2 l).map fun r => (r, fv r)).take j).foldl bothStep (selfK l)) := bothK_nd l _
    simp only [sIf, sSeq, sRet, sRetN, sAsg, sSet, sDrop, sNext, sNever, sPar, sFor, sFldD, mNot, mTv, mAnd, mOr, mAndV, mOrV, mNotV, mBin, mUn, mC, mCall, mCons, mNil, mTup, mLst, mLstC, mFn, mFnK, mCallL, mLenO, mLz, mIdx, DL.iZip, DL.iEnS, cSortT, mDic0, mDit0, gSubT, iCbR, cMinT, cMaxT, mIf, mChain, mFld, mIsC, mJoin, mSl, pNo, pSo, mLc, mLcC, mLc2, mLcK, mDc, mDcC, mIsi, mBack, mApp, mPop, mMake, mMeth, mHeard, iSeq, iRng1', iRng2', iEn, iCb, gNm, gTup1, gCons', gNil', gSub', mNm, mYes, startD, wipeD, isB, isI, isS, List.map_cons, List.map_nil, List.length_cons, List.length_nil, List.replicate_succ, List.replicate_zero, List.cons_append, List.nil_append, List.getElem?_cons_zero, List.getElem?_cons_succ, List.set_cons_zero, List.set_cons_succ, Nat.reduceAdd, Nat.reduceSub, if_true, true_and, ix20, ix21, oAdd_ii, oAdd_ss, oAdd_tt, oAdd_ll, oSub_ii, oMul_ii, oDiv_ii, oMod_ii, oPow_ii, oNeg_i, oLt_ii, oLe_ii, oGt_ii, oGe_ii, oEq_ii, oNe_ii, oEq_ss, oNe_ss, cInt_i, cInt_b, cAbs_i, cLen_s, cLen_l, cLen_f, cLen_t, cMin_2, cMax_2, cMax_3, cTuple_l, cTuple_t, cDivmod_ii, cListC_s, items_l, items_t, items_s, Nat.reduceLeDiff]
    refine oIx_dic (k := .inr r) rfl rfl (known_look hr) ?_
    refine oIx_dic (k := .inr r) rfl rfl (known_look hr) ?_
    refine ⟨rfl, oSet_dic (k := .inr r) rfl (last_at _ _) hnd (by omega) ?_⟩
    rw [set_last]
    refine ⟨by show r.length ≤ 1000; rw [(combA_mem _ _ _ hr).1]; decide, oSet_dic (k := .inr r.reverse) rfl (last_at _ _) (putD_nd hnd) ?_ ?_⟩
    · have := putD_len (.inr r) (.int (fv r)) ((((combA 2 l).map fun r => (r, fv r)).take j).foldl bothStep (selfK l))
      omega
    rw [set_last]
    refine hN _ _ ⟨some (.str r), rfl, ?_⟩
    have hj2 : ((combA 2 l).map fun r => (r, fv r))[j]? = some (r, fv r) := by rw [List.getElem?_map, hj]; rfl
    rw [take_snoc hj2, List.foldl_append]
    rfl
  · rintro ρ st ⟨y, rfl, rfl⟩
    refine ⟨trivial, ?_⟩
    have e1 : (((combA 2 l).map fun r => (r, fv r)).take (combA 2 l).length) = rowsF l (farOf l fv) := by
      rw [farOf_row hn, List.take_of_length_le (by rw [List.length_map]; exact Nat.le_refl _)]
    rw [e1]
    have F := farOf_ok hn hv
    exact k _ _ (bothK_far hn hl F) F
theorem ok_law_made (F : Fun K "_law_made" "_law_made" s_law_made f fd) (T : Txt K mg C) (C_Table : CanMD P w K mg base 5 "Table" C ["self", "things", "distances"] (S_Table C)) (C_law_twos : CanD P w K mg base 1 "_law_twos" s_law_twos ["_law_names_here"] S_law_twos) : FnOk P w K mg base CX0 7 f fd ["_law_names_here", "_law_far"] (spD K 2 (S_law_made C)) := by
  refine fnF F sc_law_made (fun cdv A outer s H E hr => (dss_one (ds_ret (de_make C_Table (hr.mono (by decide)) (da_cons (dv 0) (da_cons (de_callTy (dc_tuple (K := K)) T.tuple (da_cons (de_lc (own := [("_law_two", 2)]) rfl sc_law_made.nd (di_seq (de_fn C_law_twos (hr.mono (by decide)) (da_cons (dv 0) da_nil))) (blkOk_by (own := [("_law_two", 2)]) (N := N_law_made) (sc := defScope s_law_made) (by decide +kernel)) (tof_nm (i := 2)) (fun _ _ _ _ _ => (pg_name (i := 2) sc_law_made.nd rfl (Or.inl rfl) (Or.inr rfl))) (fun _ _ _ _ _ => dts_nil) (fun _ _ _ _ _ => (de_tup (da_cons (dv 2) (da_cons (de_ix (hu1 hr) (dv 1) (dv 2)) da_nil))))) da_nil)) da_nil)))))) ?_
  rintro st0 ds Qd _ ⟨l, kvs, far, rfl, hN, hK, hF, k⟩
  simp only [sIf, sSeq, sRet, sRetN, sAsg, sSet, sDrop, sNext, sNever, sPar, sFor, sFldD, mNot, mTv, mAnd, mOr, mAndV, mOrV, mNotV, mBin, mUn, mC, mCall, mCons, mNil, mTup, mLst, mLstC, mFn, mFnK, mCallL, mLenO, mLz, mIdx, DL.iZip, DL.iEnS, cSortT, mDic0, mDit0, gSubT, iCbR, cMinT, cMaxT, mIf, mChain, mFld, mIsC, mJoin, mSl, pNo, pSo, mLc, mLcC, mLc2, mLcK, mDc, mDcC, mIsi, mBack, mApp, mPop, mMake, mMeth, mHeard, iSeq, iRng1', iRng2', iEn, iCb, gNm, gTup1, gCons', gNil', gSub', mNm, mYes, startD, wipeD, isB, isI, isS, List.map_cons, List.map_nil, List.length_cons, List.length_nil, List.replicate_succ, List.replicate_zero, List.cons_append, List.nil_append, List.getElem?_cons_zero, List.getElem?_cons_succ, List.set_cons_zero, List.set_cons_succ, Nat.reduceAdd, Nat.reduceSub, if_true, true_and, ix20, ix21, oAdd_ii, oAdd_ss, oAdd_tt, oAdd_ll, oSub_ii, oMul_ii, oDiv_ii, oMod_ii, oPow_ii, oNeg_i, oLt_ii, oLe_ii, oGt_ii, oGe_ii, oEq_ii, oNe_ii, oEq_ss, oNe_ss, cInt_i, cInt_b, cAbs_i, cLen_s, cLen_l, cLen_f, cLen_t, cMin_2, cMax_2, cMax_3, cTuple_l, cTuple_t, cDivmod_ii, cListC_s, items_l, items_t, items_s, Nat.reduceLeDiff]
  refine ⟨l, rfl, hN.2.2, ?_⟩
  simp only [sIf, sSeq, sRet, sRetN, sAsg, sSet, sDrop, sNext, sNever, sPar, sFor, sFldD, mNot, mTv, mAnd, mOr, mAndV, mOrV, mNotV, mBin, mUn, mC, mCall, mCons, mNil, mTup, mLst, mLstC, mFn, mFnK, mCallL, mLenO, mLz, mIdx, DL.iZip, DL.iEnS, cSortT, mDic0, mDit0, gSubT, iCbR, cMinT, cMaxT, mIf, mChain, mFld, mIsC, mJoin, mSl, pNo, pSo, mLc, mLcC, mLc2, mLcK, mDc, mDcC, mIsi, mBack, mApp, mPop, mMake, mMeth, mHeard, iSeq, iRng1', iRng2', iEn, iCb, gNm, gTup1, gCons', gNil', gSub', mNm, mYes, startD, wipeD, isB, isI, isS, List.map_cons, List.map_nil, List.length_cons, List.length_nil, List.replicate_succ, List.replicate_zero, List.cons_append, List.nil_append, List.getElem?_cons_zero, List.getElem?_cons_succ, List.set_cons_zero, List.set_cons_succ, Nat.reduceAdd, Nat.reduceSub, if_true, true_and, ix20, ix21, oAdd_ii, oAdd_ss, oAdd_tt, oAdd_ll, oSub_ii, oMul_ii, oDiv_ii, oMod_ii, oPow_ii, oNeg_i, oLt_ii, oLe_ii, oGt_ii, oGe_ii, oEq_ii, oNe_ii, oEq_ss, oNe_ss, cInt_i, cInt_b, cAbs_i, cLen_s, cLen_l, cLen_f, cLen_t, cMin_2, cMax_2, cMax_3, cTuple_l, cTuple_t, cDivmod_ii, cListC_s, items_l, items_t, items_s, Nat.reduceLeDiff]
  have hc : (combA 2 l).length ≤ 35 := comb_le hN.2.2
  refine ⟨by rw [List.length_map]; omega, ?_⟩
  refine lcD_m (f := fun r => D.tup [.str r, .int (farR far r)]) (fun r hr K1 q => ?_) trivial ?_
  · obtain ⟨a, b, rfl, ha, hb⟩ := comb2_pair hr
    simp only [sIf, sSeq, sRet, sRetN, sAsg, sSet, sDrop, sNext, sNever, sPar, sFor, sFldD, mNot, mTv, mAnd, mOr, mAndV, mOrV, mNotV, mBin, mUn, mC, mCall, mCons, mNil, mTup, mLst, mLstC, mFn, mFnK, mCallL, mLenO, mLz, mIdx, DL.iZip, DL.iEnS, cSortT, mDic0, mDit0, gSubT, iCbR, cMinT, cMaxT, mIf, mChain, mFld, mIsC, mJoin, mSl, pNo, pSo, mLc, mLcC, mLc2, mLcK, mDc, mDcC, mIsi, mBack, mApp, mPop, mMake, mMeth, mHeard, iSeq, iRng1', iRng2', iEn, iCb, gNm, gTup1, gCons', gNil', gSub', mNm, mYes, startD, wipeD, isB, isI, isS, List.map_cons, List.map_nil, List.length_cons, List.length_nil, List.replicate_succ, List.replicate_zero, List.cons_append, List.nil_append, List.getElem?_cons_zero, List.getElem?_cons_succ, List.set_cons_zero, List.set_cons_succ, Nat.reduceAdd, Nat.reduceSub, if_true, true_and, ix20, ix21, oAdd_ii, oAdd_ss, oAdd_tt, oAdd_ll, oSub_ii, oMul_ii, oDiv_ii, oMod_ii, oPow_ii, oNeg_i, oLt_ii, oLe_ii, oGt_ii, oGe_ii, oEq_ii, oNe_ii, oEq_ss, oNe_ss, cInt_i, cInt_b, cAbs_i, cLen_s, cLen_l, cLen_f, cLen_t, cMin_2, cMax_2, cMax_3, cTuple_l, cTuple_t, cDivmod_ii, cListC_s, items_l, items_t, items_s, Nat.reduceLeDiff]
    exact oIx_dic (k := .inr [a, b]) rfl rfl (hK.look a ha b hb) q
  · have e : (combA 2 l).map (fun r => D.tup [.str r, .int (farR far r)]) = rowsD (rowsF l far) := by
      unfold rowsD rowsF; rw [List.map_map]; rfl
    rw [e]
    refine ⟨st0.length, l, far, rfl, last_at _ _, hN.1, hN.2.1, hN.2.2, fun a ha b hb => ⟨hF.low a ha b hb, hF.top a ha b hb⟩, rfl, ?_⟩
    rw [set_last]
    refine exit_cellI (Nat.le_refl _) (last_at _ _) ?_ k
    have := tabD_pl C l far
    unfold tabD at this
    rw [pl] at this
    exact this
theorem ok_law_lots (F : Fun K "_law_lots" "_law_lots" s_law_lots f fd) (T : Txt K mg C)  : FnOk P w K mg base CX0 1 f fd ["_law_names_here"] (spD K 1 S_law_lots) := by
  refine fnF F sc_law_lots (fun cdv A outer s H E hr => (dss_cons (ds_set (i := 1) sc_law_lots.nd rfl (Or.inl rfl) (de_lst da_nil))
  (dss_cons (ds_for PassesOwn.never rfl (di_seq (de_sl (dv 0) (dp_so de_int) dp_no)) (dg_nm (i := 2) sc_law_lots.nd rfl (Or.inr rfl) (Or.inl rfl)) (dss_one (ds_set (i := 1) sc_law_lots.nd rfl (Or.inl rfl) (de_bin (do_add (K := K)) (de_bin (do_add (K := K)) (dv 1) (de_lc (own := [("_law_lot", 3)]) rfl sc_law_lots.nd (di_seq (dv 1)) (blkOk_by (own := [("_law_lot", 3)]) (N := N_law_lots) (sc := defScope s_law_lots) (by decide +kernel)) (tof_nm (i := 3)) (fun _ _ _ _ _ => (pg_name (i := 3) sc_law_lots.nd rfl (Or.inl rfl) (Or.inr rfl))) (fun _ _ _ _ _ => dts_nil) (fun _ _ _ _ _ => (de_bin (do_add (K := K)) (dv 3) (dv 2))))) (de_lst (da_cons (dv 2) da_nil))))))
  (dss_one (ds_ret (de_callB (dc_sorted (K := K)) T.sorted (da_cons (dv 1) da_nil))))))) ?_
  rintro st0 ds Qd _ ⟨l, rfl, hl, k⟩
  simp only [sIf, sSeq, sRet, sRetN, sAsg, sSet, sDrop, sNext, sNever, sPar, sFor, sFldD, mNot, mTv, mAnd, mOr, mAndV, mOrV, mNotV, mBin, mUn, mC, mCall, mCons, mNil, mTup, mLst, mLstC, mFn, mFnK, mCallL, mLenO, mLz, mIdx, DL.iZip, DL.iEnS, cSortT, mDic0, mDit0, gSubT, iCbR, cMinT, cMaxT, mIf, mChain, mFld, mIsC, mJoin, mSl, pNo, pSo, mLc, mLcC, mLc2, mLcK, mDc, mDcC, mIsi, mBack, mApp, mPop, mMake, mMeth, mHeard, iSeq, iRng1', iRng2', iEn, iCb, gNm, gTup1, gCons', gNil', gSub', mNm, mYes, startD, wipeD, isB, isI, isS, List.map_cons, List.map_nil, List.length_cons, List.length_nil, List.replicate_succ, List.replicate_zero, List.cons_append, List.nil_append, List.getElem?_cons_zero, List.getElem?_cons_succ, List.set_cons_zero, List.set_cons_succ, Nat.reduceAdd, Nat.reduceSub, if_true, true_and, ix20, ix21, oAdd_ii, oAdd_ss, oAdd_tt, oAdd_ll, oSub_ii, oMul_ii, oDiv_ii, oMod_ii, oPow_ii, oNeg_i, oLt_ii, oLe_ii, oGt_ii, oGe_ii, oEq_ii, oNe_ii, oEq_ss, oNe_ss, cInt_i, cInt_b, cAbs_i, cLen_s, cLen_l, cLen_f, cLen_t, cMin_2, cMax_2, cMax_3, cTuple_l, cTuple_t, cDivmod_ii, cListC_s, items_l, items_t, items_s, Nat.reduceLeDiff]
  have hd6 : (l.drop 1).length ≤ 6 := by rw [List.length_drop]; omega
  refine slD_str (by omega) ?_
  rw [cut_one]
  refine forD_rel0 (fun i ρ st => st = st0 ∧ ∃ y, ρ = [some (.str l), some (.lst ((rowL ((l.drop 1).take i)).map D.str)), y, none]) ⟨rfl, none, rfl⟩ ?_ ?_
  · rintro j c ρ st hj ⟨rfl, y, rfl⟩
    refine ⟨trivial, fun N hN => ?_⟩
    have hs := row_take hd6 j
    have hll : ∀ x ∈ rowL ((l.drop 1).take j), x.length ≤ 6 := fun x hx => by
      have := row_len (n := 0) ((l.drop 1).take j) [] (by simp) x hx
      rw [List.length_take] at this
      omega
    simp only [sIf, sSeq, sRet, sRetN, sAsg, sSet, sDrop, sNext, sNever, sPar, sFor, sFldD, mNot, mTv, mAnd, mOr, mAndV, mOrV, mNotV, mBin, mUn, mC, mCall, mCons, mNil, mTup, mLst, mLstC, mFn, mFnK, mCallL, mLenO, mLz, mIdx, DL.iZip, DL.iEnS, cSortT, mDic0, mDit0, gSubT, iCbR, cMinT, cMaxT, mIf, mChain, mFld, mIsC, mJoin, mSl, pNo, pSo, mLc, mLcC, mLc2, mLcK, mDc, mDcC, mIsi, mBack, mApp, mPop, mMake, mMeth, mHeard, iSeq, iRng1', iRng2', iEn, iCb, gNm, gTup1, gCons', gNil', gSub', mNm, mYes, startD, wipeD, isB, isI, isS, List.map_cons, List.map_nil, List.length_cons, List.length_nil, List.replicate_succ, List.replicate_zero, List.cons_append, List.nil_append, List.getElem?_cons_zero, List.getElem?_cons_succ, List.set_cons_zero, List.set_cons_succ, Nat.reduceAdd, Nat.reduceSub, if_true, true_and, ix20, ix21, oAdd_ii, oAdd_ss, oAdd_tt, oAdd_ll, oSub_ii, oMul_ii, oDiv_ii, oMod_ii, oPow_ii, oNeg_i, oLt_ii, oLe_ii, oGt_ii, oGe_ii, oEq_ii, oNe_ii, oEq_ss, oNe_ss, cInt_i, cInt_b, cAbs_i, cLen_s, cLen_l, cLen_f, cLen_t, cMin_2, cMax_2, cMax_3, cTuple_l, cTuple_t, cDivmod_ii, cListC_s, items_l, items_t, items_s, Nat.reduceLeDiff]
    refine ⟨by rw [List.length_map]; omega, ?_⟩
    refine lcD_m (f := fun x => D.str (x ++ [c])) (fun x hx K1 q => ?_) trivial ?_
    · have := hll x hx
      exact ⟨by show x.length + 1 ≤ 1000000; omega, q⟩
    · have e1 : ((rowL ((l.drop 1).take j)).map D.str ++ (rowL ((l.drop 1).take j)).map fun x => D.str (x ++ [c])) ++ [D.str [c]] = (rowL ((l.drop 1).take (j + 1))).map D.str := by
        rw [row_snoc hj]
        unfold rowStep
        rw [List.map_append, List.map_append, List.map_map]
        rfl
      refine ⟨by rw [List.length_map, List.length_map]; omega, by rw [List.length_append, List.length_map, List.length_map]; omega, ?_⟩
      rw [e1]
      exact hN _ _ ⟨rfl, _, rfl⟩
  · rintro ρ st ⟨rfl, y, rfl⟩
    refine ⟨trivial, ?_⟩
    simp only [sIf, sSeq, sRet, sRetN, sAsg, sSet, sDrop, sNext, sNever, sPar, sFor, sFldD, mNot, mTv, mAnd, mOr, mAndV, mOrV, mNotV, mBin, mUn, mC, mCall, mCons, mNil, mTup, mLst, mLstC, mFn, mFnK, mCallL, mLenO, mLz, mIdx, DL.iZip, DL.iEnS, cSortT, mDic0, mDit0, gSubT, iCbR, cMinT, cMaxT, mIf, mChain, mFld, mIsC, mJoin, mSl, pNo, pSo, mLc, mLcC, mLc2, mLcK, mDc, mDcC, mIsi, mBack, mApp, mPop, mMake, mMeth, mHeard, iSeq, iRng1', iRng2', iEn, iCb, gNm, gTup1, gCons', gNil', gSub', mNm, mYes, startD, wipeD, isB, isI, isS, List.map_cons, List.map_nil, List.length_cons, List.length_nil, List.replicate_succ, List.replicate_zero, List.cons_append, List.nil_append, List.getElem?_cons_zero, List.getElem?_cons_succ, List.set_cons_zero, List.set_cons_succ, Nat.reduceAdd, Nat.reduceSub, if_true, true_and, ix20, ix21, oAdd_ii, oAdd_ss, oAdd_tt, oAdd_ll, oSub_ii, oMul_ii, oDiv_ii, oMod_ii, oPow_ii, oNeg_i, oLt_ii, oLe_ii, oGt_ii, oGe_ii, oEq_ii, oNe_ii, oEq_ss, oNe_ss, cInt_i, cInt_b, cAbs_i, cLen_s, cLen_l, cLen_f, cLen_t, cMin_2, cMax_2, cMax_3, cTuple_l, cTuple_t, cDivmod_ii, cListC_s, items_l, items_t, items_s, Nat.reduceLeDiff]
    rw [List.take_length]
    refine cSorted_strs (by have := row_take hd6 (l.drop 1).length; rwa [List.take_length] at this) ?_
    rw [srt_congr (row_lots hd6)]
    exact exit_pl (pl_strs _) k
theorem ok_law_splits (F : Fun K "_law_splits" "_law_splits" s_law_splits f fd) (T : Txt K mg C)  : FnOk P w K mg base CX0 1 f fd ["_law_lot", "_law_two"] (spD K 2 S_law_splits) := by
  refine fnF F sc_law_splits (fun cdv A outer s H E hr => (dss_one (ds_ret (de_cmp (do_ne (K := K) hr.units) (de_cmp (do_in (K := K) (hu1 hr)) (de_ix (hu1 hr) (dv 1) de_int) (dv 0) (by with_unfolding_all rfl)) (de_cmp (do_in (K := K) (hu1 hr)) (de_ix (hu1 hr) (dv 1) de_int) (dv 0) (by with_unfolding_all rfl)) (nomark _))))) ?_
  rintro st0 ds Qd _ ⟨p, d, a, b, rfl, hd, k⟩
  simp only [sIf, sSeq, sRet, sRetN, sAsg, sSet, sDrop, sNext, sNever, sPar, sFor, sFldD, mNot, mTv, mAnd, mOr, mAndV, mOrV, mNotV, mBin, mUn, mC, mCall, mCons, mNil, mTup, mLst, mLstC, mFn, mFnK, mCallL, mLenO, mLz, mIdx, DL.iZip, DL.iEnS, cSortT, mDic0, mDit0, gSubT, iCbR, cMinT, cMaxT, mIf, mChain, mFld, mIsC, mJoin, mSl, pNo, pSo, mLc, mLcC, mLc2, mLcK, mDc, mDcC, mIsi, mBack, mApp, mPop, mMake, mMeth, mHeard, iSeq, iRng1', iRng2', iEn, iCb, gNm, gTup1, gCons', gNil', gSub', mNm, mYes, startD, wipeD, isB, isI, isS, List.map_cons, List.map_nil, List.length_cons, List.length_nil, List.replicate_succ, List.replicate_zero, List.cons_append, List.nil_append, List.getElem?_cons_zero, List.getElem?_cons_succ, List.set_cons_zero, List.set_cons_succ, Nat.reduceAdd, Nat.reduceSub, if_true, true_and, ix20, ix21, oAdd_ii, oAdd_ss, oAdd_tt, oAdd_ll, oSub_ii, oMul_ii, oDiv_ii, oMod_ii, oPow_ii, oNeg_i, oLt_ii, oLe_ii, oGt_ii, oGe_ii, oEq_ii, oNe_ii, oEq_ss, oNe_ss, cInt_i, cInt_b, cAbs_i, cLen_s, cLen_l, cLen_f, cLen_t, cMin_2, cMax_2, cMax_3, cTuple_l, cTuple_t, cDivmod_ii, cListC_s, items_l, items_t, items_s, Nat.reduceLeDiff]
  refine oIx_str (i := 0) rfl rfl (by show 2 ≤ 1000000; decide) ?_
  have fin : exitF st0 Qd (.bl (!decide ((false != decide (a ∈ p)) = (false != decide (b ∈ p))))) st0 := by
    refine exit_pl rfl ?_
    have : (!decide ((false != decide (a ∈ p)) = (false != decide (b ∈ p)))) = isPartedM p a b := by
      rw [Ld.ne_bool]; unfold isPartedM; cases decide (a ∈ p) <;> cases decide (b ∈ p) <;> rfl
    rw [this]; exact k
  rcases hd with rfl | rfl
  · rw [oIn_s]
    refine oIx_str (i := 1) rfl rfl (by show 2 ≤ 1000000; decide) ?_
    rw [oIn_s, oNe_bb]
    exact fin
  · refine oIn_sg ?_
    refine oIx_str (i := 1) rfl rfl (by show 2 ≤ 1000000; decide) ?_
    refine oIn_sg ?_
    rw [oNe_bb]
    exact fin
theorem ok_law_summed (F : Fun K "_law_summed" "_law_summed" s_law_summed f fd) (T : Txt K mg C) (C_law_twos : CanD P w K mg base 1 "_law_twos" s_law_twos ["_law_names_here"] S_law_twos) (C_law_splits : CanD P w K mg base 1 "_law_splits" s_law_splits ["_law_lot", "_law_two"] S_law_splits) : FnOk P w K mg base CX0 2 f fd ["_law_names_here", "_law_marks"] (spD K 2 S_law_summed) := by
  refine fnF F sc_law_summed (fun cdv A outer s H E hr => (dss_one (ds_ret (de_callTy (dc_dict (K := K) rfl) T.dict (da_cons (de_lc (own := [("_law_two", 4)]) rfl sc_law_summed.nd (di_seq (de_fn C_law_twos (hr.mono (by decide)) (da_cons (dv 0) da_nil))) (blkOk_by (own := [("_law_two", 4)]) (N := N_law_summed) (sc := defScope s_law_summed) (by decide +kernel)) (tof_nm (i := 4)) (fun _ _ _ _ _ => (pg_name (i := 4) sc_law_summed.nd rfl (Or.inr rfl) (Or.inl rfl))) (fun _ _ _ _ _ => dts_nil) (fun _ _ _ _ _ => (de_tup (da_cons (dv 4) (da_cons (de_callB (dc_sum (K := K) rfl) T.sum (da_cons (de_lc (own := [("_law_lot", 2), ("_law_size", 3)]) rfl sc_law_summed.nd (di_seq (dv 1)) (blkOk_by (own := [("_law_lot", 2), ("_law_size", 3)]) (N := N_law_summed) (sc := ({ kind := .function, names := [(".0", .local), ("_law_two", .cell), ("sum", .globalImplicit), ("_law_marks", .cell)], isGenerator := false, isCoroutine := false } : Scope)) (by decide +kernel)) (tof_tup1 (n := 2) (tofs_cons (i := 2) (tofs_cons (i := 3) tofs_nil))) (fun _ _ _ _ _ => (dg_tupG (K := K) (n := 2) rfl (pgs_cons (pg_name (i := 2) sc_law_summed.nd rfl (Or.inl rfl) (Or.inr rfl)) (pgs_cons (pg_name (i := 3) sc_law_summed.nd rfl (Or.inl rfl) (Or.inr rfl)) pgs_nil)))) (fun _ _ _ _ _ => (dts_one (dt_val (de_fn C_law_splits (hr.mono (by decide)) (da_cons (dv 2) (da_cons (dv 4) da_nil)))))) (fun _ _ _ _ _ => (dv 3))) da_nil)) da_nil))))) da_nil))))) ?_
  rintro st0 ds Qd _ ⟨l, n, ms, rfl, hm, hn, hl, hml, hms, k⟩
  simp only [sIf, sSeq, sRet, sRetN, sAsg, sSet, sDrop, sNext, sNever, sPar, sFor, sFldD, mNot, mTv, mAnd, mOr, mAndV, mOrV, mNotV, mBin, mUn, mC, mCall, mCons, mNil, mTup, mLst, mLstC, mFn, mFnK, mCallL, mLenO, mLz, mIdx, DL.iZip, DL.iEnS, cSortT, mDic0, mDit0, gSubT, iCbR, cMinT, cMaxT, mIf, mChain, mFld, mIsC, mJoin, mSl, pNo, pSo, mLc, mLcC, mLc2, mLcK, mDc, mDcC, mIsi, mBack, mApp, mPop, mMake, mMeth, mHeard, iSeq, iRng1', iRng2', iEn, iCb, gNm, gTup1, gCons', gNil', gSub', mNm, mYes, startD, wipeD, isB, isI, isS, List.map_cons, List.map_nil, List.length_cons, List.length_nil, List.replicate_succ, List.replicate_zero, List.cons_append, List.nil_append, List.getElem?_cons_zero, List.getElem?_cons_succ, List.set_cons_zero, List.set_cons_succ, Nat.reduceAdd, Nat.reduceSub, if_true, true_and, ix20, ix21, oAdd_ii, oAdd_ss, oAdd_tt, oAdd_ll, oSub_ii, oMul_ii, oDiv_ii, oMod_ii, oPow_ii, oNeg_i, oLt_ii, oLe_ii, oGt_ii, oGe_ii, oEq_ii, oNe_ii, oEq_ss, oNe_ss, cInt_i, cInt_b, cAbs_i, cLen_s, cLen_l, cLen_f, cLen_t, cMin_2, cMax_2, cMax_3, cTuple_l, cTuple_t, cDivmod_ii, cListC_s, items_l, items_t, items_s, Nat.reduceLeDiff]
  have hc : (combA 2 l).length ≤ 35 := comb_le hl
  refine ⟨l, rfl, hl, ?_⟩
  simp only [sIf, sSeq, sRet, sRetN, sAsg, sSet, sDrop, sNext, sNever, sPar, sFor, sFldD, mNot, mTv, mAnd, mOr, mAndV, mOrV, mNotV, mBin, mUn, mC, mCall, mCons, mNil, mTup, mLst, mLstC, mFn, mFnK, mCallL, mLenO, mLz, mIdx, DL.iZip, DL.iEnS, cSortT, mDic0, mDit0, gSubT, iCbR, cMinT, cMaxT, mIf, mChain, mFld, mIsC, mJoin, mSl, pNo, pSo, mLc, mLcC, mLc2, mLcK, mDc, mDcC, mIsi, mBack, mApp, mPop, mMake, mMeth, mHeard, iSeq, iRng1', iRng2', iEn, iCb, gNm, gTup1, gCons', gNil', gSub', mNm, mYes, startD, wipeD, isB, isI, isS, List.map_cons, List.map_nil, List.length_cons, List.length_nil, List.replicate_succ, List.replicate_zero, List.cons_append, List.nil_append, List.getElem?_cons_zero, List.getElem?_cons_succ, List.set_cons_zero, List.set_cons_succ, Nat.reduceAdd, Nat.reduceSub, if_true, true_and, ix20, ix21, oAdd_ii, oAdd_ss, oAdd_tt, oAdd_ll, oSub_ii, oMul_ii, oDiv_ii, oMod_ii, oPow_ii, oNeg_i, oLt_ii, oLe_ii, oGt_ii, oGe_ii, oEq_ii, oNe_ii, oEq_ss, oNe_ss, cInt_i, cInt_b, cAbs_i, cLen_s, cLen_l, cLen_f, cLen_t, cMin_2, cMax_2, cMax_3, cTuple_l, cTuple_t, cDivmod_ii, cListC_s, items_l, items_t, items_s, Nat.reduceLeDiff]
  refine ⟨by rw [List.length_map]; omega, ?_⟩
  refine lcD_m (f := fun r => D.tup [.str r, .int ((ms.filter fun m => isPartedM m.1 (r.getD 0 0) (r.getD 1 0)).map (·.2)).sum]) (fun r hr K1 q => ?_) trivial ?_
  · obtain ⟨a, b, rfl, ha, hb⟩ := comb2_pair hr
    simp only [sIf, sSeq, sRet, sRetN, sAsg, sSet, sDrop, sNext, sNever, sPar, sFor, sFldD, mNot, mTv, mAnd, mOr, mAndV, mOrV, mNotV, mBin, mUn, mC, mCall, mCons, mNil, mTup, mLst, mLstC, mFn, mFnK, mCallL, mLenO, mLz, mIdx, DL.iZip, DL.iEnS, cSortT, mDic0, mDit0, gSubT, iCbR, cMinT, cMaxT, mIf, mChain, mFld, mIsC, mJoin, mSl, pNo, pSo, mLc, mLcC, mLc2, mLcK, mDc, mDcC, mIsi, mBack, mApp, mPop, mMake, mMeth, mHeard, iSeq, iRng1', iRng2', iEn, iCb, gNm, gTup1, gCons', gNil', gSub', mNm, mYes, startD, wipeD, isB, isI, isS, List.map_cons, List.map_nil, List.length_cons, List.length_nil, List.replicate_succ, List.replicate_zero, List.cons_append, List.nil_append, List.getElem?_cons_zero, List.getElem?_cons_succ, List.set_cons_zero, List.set_cons_succ, Nat.reduceAdd, Nat.reduceSub, if_true, true_and, ix20, ix21, oAdd_ii, oAdd_ss, oAdd_tt, oAdd_ll, oSub_ii, oMul_ii, oDiv_ii, oMod_ii, oPow_ii, oNeg_i, oLt_ii, oLe_ii, oGt_ii, oGe_ii, oEq_ii, oNe_ii, oEq_ss, oNe_ss, cInt_i, cInt_b, cAbs_i, cLen_s, cLen_l, cLen_f, cLen_t, cMin_2, cMax_2, cMax_3, cTuple_l, cTuple_t, cDivmod_ii, cListC_s, items_l, items_t, items_s, Nat.reduceLeDiff]
    refine items_c hm ?_
    refine ⟨by unfold marksD; rw [List.length_map]; omega, ?_⟩
    refine lcD_pf (p := fun m => isPartedM m.1 a b) (f := fun m => D.int m.2) (fun m hm' K1 K0 q => ?_) hm ?_
    · simp only [sIf, sSeq, sRet, sRetN, sAsg, sSet, sDrop, sNext, sNever, sPar, sFor, sFldD, mNot, mTv, mAnd, mOr, mAndV, mOrV, mNotV, mBin, mUn, mC, mCall, mCons, mNil, mTup, mLst, mLstC, mFn, mFnK, mCallL, mLenO, mLz, mIdx, DL.iZip, DL.iEnS, cSortT, mDic0, mDit0, gSubT, iCbR, cMinT, cMaxT, mIf, mChain, mFld, mIsC, mJoin, mSl, pNo, pSo, mLc, mLcC, mLc2, mLcK, mDc, mDcC, mIsi, mBack, mApp, mPop, mMake, mMeth, mHeard, iSeq, iRng1', iRng2', iEn, iCb, gNm, gTup1, gCons', gNil', gSub', mNm, mYes, startD, wipeD, isB, isI, isS, List.map_cons, List.map_nil, List.length_cons, List.length_nil, List.replicate_succ, List.replicate_zero, List.cons_append, List.nil_append, List.getElem?_cons_zero, List.getElem?_cons_succ, List.set_cons_zero, List.set_cons_succ, Nat.reduceAdd, Nat.reduceSub, if_true, true_and, ix20, ix21, oAdd_ii, oAdd_ss, oAdd_tt, oAdd_ll, oSub_ii, oMul_ii, oDiv_ii, oMod_ii, oPow_ii, oNeg_i, oLt_ii, oLe_ii, oGt_ii, oGe_ii, oEq_ii, oNe_ii, oEq_ss, oNe_ss, cInt_i, cInt_b, cAbs_i, cLen_s, cLen_l, cLen_f, cLen_t, cMin_2, cMax_2, cMax_3, cTuple_l, cTuple_t, cDivmod_ii, cListC_s, items_l, items_t, items_s, Nat.reduceLeDiff]
      refine ⟨rfl, m.1, _, a, b, rfl, .inr rfl, ?_⟩
      exact q
    · have e : (ms.filter fun m => isPartedM m.1 a b).map (fun m => D.int m.2) = ((ms.filter fun m => isPartedM m.1 a b).map (·.2)).map D.int := by rw [List.map_map]; rfl
      rw [e]
      exact cSum_ints q
  · refine cDict_map (k := fun r => r) (d := fun r => .int ((ms.filter fun m => isPartedM m.1 (r.getD 0 0) (r.getD 1 0)).map (·.2)).sum) ?_
    rw [merge_known hn]
    refine exit_pl ?_ (k _ fun r _ => ?_)
    · rw [pl]; exact known_pl _ _
    · have := sum_le (ms.filter fun m => isPartedM m.1 (r.getD 0 0) (r.getD 1 0)) (fun m h => hms m (List.mem_filter.mp h).1)
      have h2 := List.length_filter_le (fun m => isPartedM m.1 (r.getD 0 0) (r.getD 1 0)) ms
      omega
end
end K20d
set_option Elab.async false
set_option linter.all false
set_option maxRecDepth 100000
set_option maxHeartbeats 4000000
namespace K20d
open PySem PySem.Spec PyProof.Rows L2 Nf DL Pd Nd Ld Cd
section
variable {P : Program} {w : World} {K : PySem.W.Frag} {mg : Str → Option Value} {base : Heap} {C : Addr} {f : Addr} {fd : FuncData}
open Classical in
theorem ok_law_shortened (F : Fun K "_law_shortened" "_law_shortened" s_law_shortened f fd) (T : Txt K mg C)  : FnOk P w K mg base CX0 1 f fd ["_law_names_here", "_law_far"] (spD K 2 S_law_shortened) := by
  refine fnF F sc_law_shortened (fun cdv A outer s H E hr => (dss_cons (ds_for PassesOwn.never rfl (di_seq (dv 0)) (dg_nm (i := 2) sc_law_shortened.nd rfl (Or.inl rfl) (Or.inr rfl)) (dss_one (ds_for PassesOwn.never rfl (di_seq (dv 0)) (dg_nm (i := 3) sc_law_shortened.nd rfl (Or.inl rfl) (Or.inr rfl)) (dss_one (ds_for PassesOwn.never rfl (di_seq (dv 0)) (dg_nm (i := 4) sc_law_shortened.nd rfl (Or.inl rfl) (Or.inr rfl)) (dss_one (ds_asg (de_callB (dc_min (K := K) rfl) T.min (da_cons (de_ix (hu1 hr) (dv 1) (de_bin (do_add (K := K)) (dv 3) (dv 4))) (da_cons (de_bin (do_add (K := K)) (de_ix (hu1 hr) (dv 1) (de_bin (do_add (K := K)) (dv 3) (dv 2))) (de_ix (hu1 hr) (dv 1) (de_bin (do_add (K := K)) (dv 2) (dv 4)))) da_nil))) (dg_sub (dv 1) (de_bin (do_add (K := K)) (dv 3) (dv 4)) (dset (hu1 hr))))))))))
  (dss_one (ds_ret (dv 1))))) ?_
  rintro st0 ds Qd _ ⟨l, n, kvs, far, rfl, hk, hn, hl, hK, hF, k⟩
  simp only [sIf, sSeq, sRet, sRetN, sAsg, sSet, sDrop, sNext, sNever, sPar, sFor, sFldD, mNot, mTv, mAnd, mOr, mAndV, mOrV, mNotV, mBin, mUn, mC, mCall, mCons, mNil, mTup, mLst, mLstC, mFn, mFnK, mCallL, mLenO, mLz, mIdx, DL.iZip, DL.iEnS, cSortT, mDic0, mDit0, gSubT, iCbR, cMinT, cMaxT, mIf, mChain, mFld, mIsC, mJoin, mSl, pNo, pSo, mLc, mLcC, mLc2, mLcK, mDc, mDcC, mIsi, mBack, mApp, mPop, mMake, mMeth, mHeard, iSeq, iRng1', iRng2', iEn, iCb, gNm, gTup1, gCons', gNil', gSub', mNm, mYes, startD, wipeD, isB, isI, isS, List.map_cons, List.map_nil, List.length_cons, List.length_nil, List.replicate_succ, List.replicate_zero, List.cons_append, List.nil_append, List.getElem?_cons_zero, List.getElem?_cons_succ, List.set_cons_zero, List.set_cons_succ, Nat.reduceAdd, Nat.reduceSub, if_true, true_and, ix20, ix21, oAdd_ii, oAdd_ss, oAdd_tt, oAdd_ll, oSub_ii, oMul_ii, oDiv_ii, oMod_ii, oPow_ii, oNeg_i, oLt_ii, oLe_ii, oGt_ii, oGe_ii, oEq_ii, oNe_ii, oEq_ss, oNe_ss, cInt_i, cInt_b, cAbs_i, cLen_s, cLen_l, cLen_f, cLen_t, cMin_2, cMax_2, cMax_3, cTuple_l, cTuple_t, cDivmod_ii, cListC_s, items_l, items_t, items_s, Nat.reduceLeDiff]
  have at_ : ∀ kvs', (st0.set n (.dic kvs'))[n]? = some (.dic kvs') := fun kvs' => set_at hk
  refine forD_rel0 (fun i ρ st => ∃ kvs g y2 y3 y4, ρ = [some (.str l), some (.cel n), y2, y3, y4] ∧ st = st0.set n (.dic kvs) ∧ FarK l kvs g ∧ FarOk l g) ⟨kvs, far, none, none, none, rfl, (set_same hk).symm, hK, hF⟩ ?_ ?_
  · rintro mi m ρ st hmi ⟨kvs, g, y2, y3, y4, rfl, rfl, hK, hF⟩
    have hm := List.mem_of_getElem? hmi
    refine ⟨trivial, fun N hN => ?_⟩
    simp only [sIf, sSeq, sRet, sRetN, sAsg, sSet, sDrop, sNext, sNever, sPar, sFor, sFldD, mNot, mTv, mAnd, mOr, mAndV, mOrV, mNotV, mBin, mUn, mC, mCall, mCons, mNil, mTup, mLst, mLstC, mFn, mFnK, mCallL, mLenO, mLz, mIdx, DL.iZip, DL.iEnS, cSortT, mDic0, mDit0, gSubT, iCbR, cMinT, cMaxT, mIf, mChain, mFld, mIsC, mJoin, mSl, pNo, pSo, mLc, mLcC, mLc2, mLcK, mDc, mDcC, mIsi, mBack, mApp, mPop, mMake, mMeth, mHeard, iSeq, iRng1', iRng2', iEn, iCb, gNm, gTup1, gCons', gNil', gSub', mNm, mYes, startD, wipeD, isB, isI, isS, List.map_cons, List.map_nil, List.length_cons, List.length_nil, List.replicate_succ, List.replicate_zero, List.cons_append, List.nil_append, List.getElem?_cons_zero, List.getElem?_cons_succ, List.set_cons_zero, List.set_cons_succ, Nat.reduceAdd, Nat.reduceSub, if_true, true_and, ix20, ix21, oAdd_ii, oAdd_ss, oAdd_tt, oAdd_ll, oSub_ii, oMul_ii, oDiv_ii, oMod_ii, oPow_ii, oNeg_i, oLt_ii, oLe_ii, oGt_ii, oGe_ii, oEq_ii, oNe_ii, oEq_ss, oNe_ss, cInt_i, cInt_b, cAbs_i, cLen_s, cLen_l, cLen_f, cLen_t, cMin_2, cMax_2, cMax_3, cTuple_l, cTuple_t, cDivmod_ii, cListC_s, items_l, items_t, items_s, Nat.reduceLeDiff]
    refine forD_rel0 (fun i ρ st => ∃ kvs y3 y4, ρ = [some (.str l), some (.cel n), some (.str [m]), y3, y4] ∧ st = st0.set n (.dic kvs) ∧ FarK l kvs (fun a b => if a ∈ l.take i then viaM g m a b else g a b)) ⟨kvs, y3, y4, rfl, rfl, hK.congr fun a ha b hb => by simp⟩ ?_ ?_
    · rintro xi x ρ st hxi ⟨kvs1, y3, y4, rfl, rfl, hK1⟩
      have hx := List.mem_of_getElem? hxi
      have nx := not_in_take hn hxi
      refine ⟨trivial, fun N1 hN1 => ?_⟩
      simp only [sIf, sSeq, sRet, sRetN, sAsg, sSet, sDrop, sNext, sNever, sPar, sFor, sFldD, mNot, mTv, mAnd, mOr, mAndV, mOrV, mNotV, mBin, mUn, mC, mCall, mCons, mNil, mTup, mLst, mLstC, mFn, mFnK, mCallL, mLenO, mLz, mIdx, DL.iZip, DL.iEnS, cSortT, mDic0, mDit0, gSubT, iCbR, cMinT, cMaxT, mIf, mChain, mFld, mIsC, mJoin, mSl, pNo, pSo, mLc, mLcC, mLc2, mLcK, mDc, mDcC, mIsi, mBack, mApp, mPop, mMake, mMeth, mHeard, iSeq, iRng1', iRng2', iEn, iCb, gNm, gTup1, gCons', gNil', gSub', mNm, mYes, startD, wipeD, isB, isI, isS, List.map_cons, List.map_nil, List.length_cons, List.length_nil, List.replicate_succ, List.replicate_zero, List.cons_append, List.nil_append, List.getElem?_cons_zero, List.getElem?_cons_succ, List.set_cons_zero, List.set_cons_succ, Nat.reduceAdd, Nat.reduceSub, if_true, true_and, ix20, ix21, oAdd_ii, oAdd_ss, oAdd_tt, oAdd_ll, oSub_ii, oMul_ii, oDiv_ii, oMod_ii, oPow_ii, oNeg_i, oLt_ii, oLe_ii, oGt_ii, oGe_ii, oEq_ii, oNe_ii, oEq_ss, oNe_ss, cInt_i, cInt_b, cAbs_i, cLen_s, cLen_l, cLen_f, cLen_t, cMin_2, cMax_2, cMax_3, cTuple_l, cTuple_t, cDivmod_ii, cListC_s, items_l, items_t, items_s, Nat.reduceLeDiff]
      refine forD_rel0 (fun i ρ st => ∃ kvs y4, ρ = [some (.str l), some (.cel n), some (.str [m]), some (.str [x]), y4] ∧ st = st0.set n (.dic kvs) ∧ FarK l kvs (fun a b => if a ∈ l.take xi ∨ (a = x ∧ b ∈ l.take i) then viaM g m a b else g a b)) ⟨kvs1, y4, rfl, rfl, hK1.congr fun a ha b hb => by simp⟩ ?_ ?_
      · rintro yi y ρ st hyi ⟨kvs2, y4, rfl, rfl, hK2⟩
        have hy := List.mem_of_getElem? hyi
        have ny := not_in_take hn hyi
        refine ⟨trivial, fun N2 hN2 => ?_⟩
        simp only [sIf, sSeq, sRet, sRetN, sAsg, sSet, sDrop, sNext, sNever, sPar, sFor, sFldD, mNot, mTv, mAnd, mOr, mAndV, mOrV, mNotV, mBin, mUn, mC, mCall, mCons, mNil, mTup, mLst, mLstC, mFn, mFnK, mCallL, mLenO, mLz, mIdx, DL.iZip, DL.iEnS, cSortT, mDic0, mDit0, gSubT, iCbR, cMinT, cMaxT, mIf, mChain, mFld, mIsC, mJoin, mSl, pNo, pSo, mLc, mLcC, mLc2, mLcK, mDc, mDcC, mIsi, mBack, mApp, mPop, mMake, mMeth, mHeard, iSeq, iRng1', iRng2', iEn, iCb, gNm, gTup1, gCons', gNil', gSub', mNm, mYes, startD, wipeD, isB, isI, isS, List.map_cons, List.map_nil, List.length_cons, List.length_nil, List.replicate_succ, List.replicate_zero, List.cons_append, List.nil_append, List.getElem?_cons_zero, List.getElem?_cons_succ, List.set_cons_zero, List.set_cons_succ, Nat.reduceAdd, Nat.reduceSub, if_true, true_and, ix20, ix21, oAdd_ii, oAdd_ss, oAdd_tt, oAdd_ll, oSub_ii, oMul_ii, oDiv_ii, oMod_ii, oPow_ii, oNeg_i, oLt_ii, oLe_ii, oGt_ii, oGe_ii, oEq_ii, oNe_ii, oEq_ss, oNe_ss, cInt_i, cInt_b, cAbs_i, cLen_s, cLen_l, cLen_f, cLen_t, cMin_2, cMax_2, cMax_3, cTuple_l, cTuple_t, cDivmod_ii, cListC_s, items_l, items_t, items_s, Nat.reduceLeDiff]
        have v1 := hK2.look x hx y hy
        have v2 := hK2.look x hx m hm
        have v3 := hK2.look m hm y hy
        rw [if_neg (by rintro (q | ⟨_, q⟩); exact nx q; exact ny q)] at v1
        have e2 : (if x ∈ l.take xi ∨ (x = x ∧ m ∈ l.take yi) then viaM g m x m else g x m) = g x m := by
          split
          · exact via_l hm hF
          · rfl
        have e3 : (if m ∈ l.take xi ∨ (m = x ∧ y ∈ l.take yi) then viaM g m m y else g m y) = g m y := by
          split
          · exact via_r hm hF
          · rfl
        rw [e2] at v2
        rw [e3] at v3
        refine oIx_dic (k := .inr [x, y]) (dr_dic (at_ _)) rfl v1 ?_
        refine oIx_dic (k := .inr [x, m]) (dr_dic (at_ _)) rfl v2 ?_
        refine oIx_dic (k := .inr [m, y]) (dr_dic (at_ _)) rfl v3 ?_
        simp only [sIf, sSeq, sRet, sRetN, sAsg, sSet, sDrop, sNext, sNever, sPar, sFor, sFldD, mNot, mTv, mAnd, mOr, mAndV, mOrV, mNotV, mBin, mUn, mC, mCall, mCons, mNil, mTup, mLst, mLstC, mFn, mFnK, mCallL, mLenO, mLz, mIdx, DL.iZip, DL.iEnS, cSortT, mDic0, mDit0, gSubT, iCbR, cMinT, cMaxT, mIf, mChain, mFld, mIsC, mJoin, mSl, pNo, pSo, mLc, mLcC, mLc2, mLcK, mDc, mDcC, mIsi, mBack, mApp, mPop, mMake, mMeth, mHeard, iSeq, iRng1', iRng2', iEn, iCb, gNm, gTup1, gCons', gNil', gSub', mNm, mYes, startD, wipeD, isB, isI, isS, List.map_cons, List.map_nil, List.length_cons, List.length_nil, List.replicate_succ, List.replicate_zero, List.cons_append, List.nil_append, List.getElem?_cons_zero, List.getElem?_cons_succ, List.set_cons_zero, List.set_cons_succ, Nat.reduceAdd, Nat.reduceSub, if_true, true_and, ix20, ix21, oAdd_ii, oAdd_ss, oAdd_tt, oAdd_ll, oSub_ii, oMul_ii, oDiv_ii, oMod_ii, oPow_ii, oNeg_i, oLt_ii, oLe_ii, oGt_ii, oGe_ii, oEq_ii, oNe_ii, oEq_ss, oNe_ss, cInt_i, cInt_b, cAbs_i, cLen_s, cLen_l, cLen_f, cLen_t, cMin_2, cMax_2, cMax_3, cTuple_l, cTuple_t, cDivmod_ii, cListC_s, items_l, items_t, items_s, Nat.reduceLeDiff]
        refine oSet_dic (k := .inr [x, y]) rfl (at_ _) hK2.nd (by have := hK2.len; omega) ?_
        rw [List.set_set]
        refine hN2 _ _ ⟨_, _, rfl, rfl, (hK2.put hx hy (viaM g m x y)).congr fun a ha b hb => ?_⟩
        by_cases e : a = x ∧ b = y
        · obtain ⟨rfl, rfl⟩ := e
          rw [if_pos ⟨rfl, rfl⟩, if_pos (.inr ⟨rfl, (mem_take_succ hyi).mpr (.inr rfl)⟩)]
        · rw [if_neg e]
          have : (a ∈ l.take xi ∨ (a = x ∧ b ∈ l.take yi)) ↔ (a ∈ l.take xi ∨ (a = x ∧ b ∈ l.take (yi + 1))) := by
            rw [mem_take_succ hyi]
            constructor
            · rintro (q | ⟨q1, q2⟩)
              · exact .inl q
              · exact .inr ⟨q1, .inl q2⟩
            · rintro (q | ⟨q1, q2 | q2⟩)
              · exact .inl q
              · exact .inr ⟨q1, q2⟩
              · exact absurd ⟨q1, q2⟩ e
          simp only [this]
      · rintro ρ st ⟨kvs2, y4, rfl, rfl, hK2⟩
        refine ⟨trivial, hN1 _ _ ⟨_, _, _, rfl, rfl, hK2.congr fun a ha b hb => ?_⟩⟩
        rw [List.take_length]
        have : (a ∈ l.take xi ∨ (a = x ∧ b ∈ l)) ↔ a ∈ l.take (xi + 1) := by
          rw [mem_take_succ hxi]
          constructor
          · rintro (q | ⟨q1, q2⟩)
            · exact .inl q
            · exact .inr q1
          · rintro (q | q)
            · exact .inl q
            · exact .inr ⟨q, hb⟩
        simp only [this]
    · rintro ρ st ⟨kvs1, y3, y4, rfl, rfl, hK1⟩
      refine ⟨trivial, hN _ _ ⟨_, viaM g m, _, _, _, rfl, rfl, hK1.congr fun a ha b hb => ?_, via_ok hm hF⟩⟩
      rw [List.take_length, if_pos ha]
  · rintro ρ st ⟨kvs, g, y2, y3, y4, rfl, rfl, hK, hF⟩
    refine ⟨trivial, ?_⟩
    simp only [sIf, sSeq, sRet, sRetN, sAsg, sSet, sDrop, sNext, sNever, sPar, sFor, sFldD, mNot, mTv, mAnd, mOr, mAndV, mOrV, mNotV, mBin, mUn, mC, mCall, mCons, mNil, mTup, mLst, mLstC, mFn, mFnK, mCallL, mLenO, mLz, mIdx, DL.iZip, DL.iEnS, cSortT, mDic0, mDit0, gSubT, iCbR, cMinT, cMaxT, mIf, mChain, mFld, mIsC, mJoin, mSl, pNo, pSo, mLc, mLcC, mLc2, mLcK, mDc, mDcC, mIsi, mBack, mApp, mPop, mMake, mMeth, mHeard, iSeq, iRng1', iRng2', iEn, iCb, gNm, gTup1, gCons', gNil', gSub', mNm, mYes, startD, wipeD, isB, isI, isS, List.map_cons, List.map_nil, List.length_cons, List.length_nil, List.replicate_succ, List.replicate_zero, List.cons_append, List.nil_append, List.getElem?_cons_zero, List.getElem?_cons_succ, List.set_cons_zero, List.set_cons_succ, Nat.reduceAdd, Nat.reduceSub, if_true, true_and, ix20, ix21, oAdd_ii, oAdd_ss, oAdd_tt, oAdd_ll, oSub_ii, oMul_ii, oDiv_ii, oMod_ii, oPow_ii, oNeg_i, oLt_ii, oLe_ii, oGt_ii, oGe_ii, oEq_ii, oNe_ii, oEq_ss, oNe_ss, cInt_i, cInt_b, cAbs_i, cLen_s, cLen_l, cLen_f, cLen_t, cMin_2, cMax_2, cMax_3, cTuple_l, cTuple_t, cDivmod_ii, cListC_s, items_l, items_t, items_s, Nat.reduceLeDiff]
    exact exit_setC (List.getElem?_eq_some_iff.mp hk).1 (by simp only [CloC]; exact plK.clo _ hK.pl) (k kvs g hK hF)
/-- known numbers, drawn -/
def KnR (st0 : Store) (u : Nat) (l : List Nat) (i : Nat) (ys : List D) (st : Store) : Prop := ∃ fv : List Nat → Int, Drew st0 u st ∧ ys = ((combA 2 l).take i).map (fun r => D.tup [.str r, .int (fv r)]) ∧ ∀ r, 0 ≤ fv r ∧ fv r ≤ 9
open Classical in
theorem ok_law_world (F : Fun K "_law_world" "_law_world" s_law_world f fd) (T : Txt K mg C) (C_law_names : CanD P w K mg base 3 "_law_names" s_law_names ["_law_urn_here", "_law_least", "_law_most"] S_law_names) (C_law_shuffled : CanD P w K mg base 2 "_law_shuffled" s_law_shuffled ["_law_urn_here", "_law_items"] S_law_shuffled) (C_law_pick : CanD P w K mg base 2 "_law_pick" s_law_pick ["_law_urn_here", "_law_items"] S_law_pick) (C_law_cast : CanD P w K mg base 1 "_law_cast" s_law_cast ["_law_urn_here", "_law_size"] S_law_cast) (C_law_twos : CanD P w K mg base 1 "_law_twos" s_law_twos ["_law_names_here"] S_law_twos) (C_law_shortened : CanD P w K mg base 1 "_law_shortened" s_law_shortened ["_law_names_here", "_law_far"] S_law_shortened) (C_law_both : CanD P w K mg base 2 "_law_both" s_law_both ["_law_names_here", "_law_known"] S_law_both) (C_law_summed : CanD P w K mg base 2 "_law_summed" s_law_summed ["_law_names_here", "_law_marks"] S_law_summed) : FnOk P w K mg base CX0 4 f fd ["_law_urn_here", "_law_least", "_law_most"] (spD K 3 S_law_world) := by
  refine fnF F sc_law_world (fun cdv A outer s H E hr => (dss_cons (ds_set (i := 3) sc_law_world.nd rfl (Or.inl rfl) (de_fn C_law_names (hr.mono (by decide)) (da_cons (dv 0) (da_cons (dv 1) (da_cons (dv 2) da_nil)))))
  (dss_cons (ds_asg (de_tup (da_cons (de_fn C_law_cast (hr.mono (by decide)) (da_cons (dv 0) (da_cons de_int da_nil))) (da_cons (de_fn C_law_pick (hr.mono (by decide)) (da_cons (dv 0) (da_cons (de_lst (da_cons de_int (da_cons de_int (da_cons de_int (da_cons de_int (da_cons de_int da_nil)))))) da_nil))) (da_cons (de_fn C_law_shuffled (hr.mono (by decide)) (da_cons (dv 0) (da_cons (dv 3) da_nil))) da_nil)))) (dg_tup1 (K := K) (n := 3) rfl (dgs_cons (dg_nm (i := 4) sc_law_world.nd rfl (Or.inl rfl) (Or.inr rfl)) (dgs_cons (dg_nm (i := 5) sc_law_world.nd rfl (Or.inr rfl) (Or.inl rfl)) (dgs_cons (dg_nm (i := 6) sc_law_world.nd rfl (Or.inl rfl) (Or.inr rfl)) dgs_nil)))))
  (dss_cons (ds_set (i := 7) sc_law_world.nd rfl (Or.inr rfl) (de_callTy (dc_dict (K := K) rfl) T.dict (da_cons (de_lc (own := [("_law_two", 8)]) rfl sc_law_world.nd (di_seq (de_fn C_law_twos (hr.mono (by decide)) (da_cons (dv 3) da_nil))) (blkOk_by (own := [("_law_two", 8)]) (N := N_law_world) (sc := defScope s_law_world) (by decide +kernel)) (tof_nm (i := 8)) (fun _ _ _ _ _ => (pg_name (i := 8) sc_law_world.nd rfl (Or.inl rfl) (Or.inr rfl))) (fun _ _ _ _ _ => dts_nil) (fun _ _ _ _ _ => (de_tup (da_cons (dv 8) (da_cons (de_fn C_law_cast (hr.mono (by decide)) (da_cons (dv 0) (da_cons (de_bin (do_add (K := K)) (dv 5) de_int) da_nil))) da_nil))))) da_nil)))
  (dss_cons (ds_if (dt_cmp (do_eq (K := K) hr.units) (dv 4) de_int (nomark _)) (dss_one (ds_ret (de_tup (da_cons (dv 3) (da_cons (de_fn C_law_shortened (hr.mono (by decide)) (da_cons (dv 3) (da_cons (de_fn C_law_both (hr.mono (by decide)) (da_cons (dv 3) (da_cons (dv 7) da_nil))) da_nil))) da_nil))))) dss_nil)
  (dss_cons (ds_if (dt_cmp (do_in (K := K) (hu1 hr)) (dv 4) (de_lst (da_cons de_int (da_cons de_int da_nil))) (by with_unfolding_all rfl)) (dss_cons (ds_set (i := 9) sc_law_world.nd rfl (Or.inl rfl) (de_lstC da_nil))
  (dss_cons (ds_for PassesOwn.never rfl (di_range1 T.range (de_bin (do_add (K := K)) de_int (de_fn C_law_cast (hr.mono (by decide)) (da_cons (dv 0) (da_cons de_int da_nil))))) (dg_nm (i := 10) sc_law_world.nd rfl (Or.inl rfl) (Or.inr rfl)) (dss_cons (ds_set (i := 11) sc_law_world.nd rfl (Or.inl rfl) (de_fn C_law_cast (hr.mono (by decide)) (da_cons (dv 0) (da_cons (de_callB (dc_len (K := K)) T.len (da_cons (dv 6) da_nil)) da_nil))))
  (dss_cons (ds_set (i := 12) sc_law_world.nd rfl (Or.inl rfl) (de_bin (do_add (K := K)) (de_bin (do_add (K := K)) (dv 11) de_int) (de_ifExp (dt_cmp (do_eq (K := K) hr.units) (dv 4) de_int (nomark _)) (de_fn C_law_cast (hr.mono (by decide)) (da_cons (dv 0) (da_cons (de_bin do_sub (de_callB (dc_len (K := K)) T.len (da_cons (dv 6) da_nil)) (dv 11)) da_nil))) de_int)))
  (dss_one (ds_expr (de_app (dv 9) (de_tup (da_cons (de_sl (dv 6) (dp_so (dv 11)) (dp_so (dv 12))) (da_cons (de_fn C_law_cast (hr.mono (by decide)) (da_cons (dv 0) (da_cons (de_bin (do_add (K := K)) (dv 5) de_int) da_nil))) da_nil)))))))))
  (dss_one (ds_set (i := 7) sc_law_world.nd rfl (Or.inr rfl) (de_fn C_law_summed (hr.mono (by decide)) (da_cons (dv 3) (da_cons (dv 9) da_nil))))))) dss_nil)
  (dss_cons (ds_if (dt_cmp (do_eq (K := K) hr.units) (dv 4) de_int (nomark _)) (dss_one (ds_set (i := 7) sc_law_world.nd rfl (Or.inr rfl) (de_callTy (dc_dict (K := K) rfl) T.dict (da_cons (de_lcK (own := [("_law_two", 8)]) rfl sc_law_world.nd (pv 7) (blkOk_by (own := [("_law_two", 8)]) (N := N_law_world) (sc := defScope s_law_world) (by decide +kernel)) (tof_nm (i := 8)) (fun _ _ _ _ _ => (pg_name (i := 8) sc_law_world.nd rfl (Or.inl rfl) (Or.inr rfl))) (fun _ _ _ _ _ => dts_nil) (fun _ _ _ _ _ => (de_tup (da_cons (dv 8) (da_cons (de_bin (do_add (K := K)) de_int (de_bin do_mod (de_callTy dc_int T.int (da_cons (de_ix (hu1 hr) (dv 7) (dv 8)) da_nil)) de_int)) da_nil))))) da_nil)))) dss_nil)
  (dss_cons (ds_if (dt_cmp (do_eq (K := K) hr.units) (dv 4) de_int (nomark _)) (dss_one (ds_set (i := 7) sc_law_world.nd rfl (Or.inr rfl) (de_callTy (dc_dict (K := K) rfl) T.dict (da_cons (de_lcK (own := [("_law_two", 8)]) rfl sc_law_world.nd (pv 7) (blkOk_by (own := [("_law_two", 8)]) (N := N_law_world) (sc := defScope s_law_world) (by decide +kernel)) (tof_nm (i := 8)) (fun _ _ _ _ _ => (pg_name (i := 8) sc_law_world.nd rfl (Or.inl rfl) (Or.inr rfl))) (fun _ _ _ _ _ => dts_nil) (fun _ _ _ _ _ => (de_tup (da_cons (dv 8) (da_cons (de_callB (dc_min (K := K) rfl) T.min (da_cons (de_bin do_pow de_int de_int) (da_cons (de_bin (do_mul (K := K)) (de_ix (hu1 hr) (dv 7) (dv 8)) de_int) da_nil))) da_nil))))) da_nil)))) dss_nil)
  (dss_one (ds_ret (de_tup (da_cons (dv 3) (da_cons (de_fn C_law_both (hr.mono (by decide)) (da_cons (dv 3) (da_cons (dv 7) da_nil))) da_nil))))))))))))) ?_
  rintro st0 ds Qd _ ⟨u, a, b, rfl, hu, h2, hab, hb, k⟩
  simp only [sIf, sSeq, sRet, sRetN, sAsg, sSet, sDrop, sNext, sNever, sPar, sFor, sFldD, mNot, mTv, mAnd, mOr, mAndV, mOrV, mNotV, mBin, mUn, mC, mCall, mCons, mNil, mTup, mLst, mLstC, mFn, mFnK, mCallL, mLenO, mLz, mIdx, DL.iZip, DL.iEnS, cSortT, mDic0, mDit0, gSubT, iCbR, cMinT, cMaxT, mIf, mChain, mFld, mIsC, mJoin, mSl, pNo, pSo, mLc, mLcC, mLc2, mLcK, mDc, mDcC, mIsi, mBack, mApp, mPop, mMake, mMeth, mHeard, iSeq, iRng1', iRng2', iEn, iCb, gNm, gTup1, gCons', gNil', gSub', mNm, mYes, startD, wipeD, isB, isI, isS, List.map_cons, List.map_nil, List.length_cons, List.length_nil, List.replicate_succ, List.replicate_zero, List.cons_append, List.nil_append, List.getElem?_cons_zero, List.getElem?_cons_succ, List.set_cons_zero, List.set_cons_succ, Nat.reduceAdd, Nat.reduceSub, if_true, true_and, ix20, ix21, oAdd_ii, oAdd_ss, oAdd_tt, oAdd_ll, oSub_ii, oMul_ii, oDiv_ii, oMod_ii, oPow_ii, oNeg_i, oLt_ii, oLe_ii, oGt_ii, oGe_ii, oEq_ii, oNe_ii, oEq_ss, oNe_ss, cInt_i, cInt_b, cAbs_i, cLen_s, cLen_l, cLen_f, cLen_t, cMin_2, cMax_2, cMax_3, cTuple_l, cTuple_t, cDivmod_ii, cListC_s, items_l, items_t, items_s, Nat.reduceLeDiff]
  refine ⟨u, a, b, rfl, hu, hab, hb, fun l st1 dr1 hN => ?_⟩
  have hu1 := hu.drew dr1
  have hn := lot_nd hN.1
  have hl : l.length ≤ 7 := Nat.le_trans hN.2.2 hb
  have hl2 : 2 ≤ l.length := Nat.le_trans h2 hN.2.1
  refine ⟨u, 6, rfl, hu1, by decide, by decide, fun way st2 dr2 hw => ?_⟩
  have hu2 := hu1.drew dr2
  refine ⟨u, _, _, rfl, hu2, .inr (.inl rfl), by simp, by show 5 ≤ 1000000; decide, rfl, fun top st3 dr3 htop => ?_⟩
  have hu3 := hu2.drew dr3
  obtain ⟨tp, rfl, ht0, ht9⟩ : ∃ tp : Nat, top = .int (tp : Nat) ∧ 0 < tp ∧ tp ≤ 9 := by
    simp only [List.mem_cons, List.not_mem_nil, or_false] at htop
    rcases htop with rfl | rfl | rfl | rfl | rfl
    · exact ⟨1, rfl, by decide, by decide⟩
    · exact ⟨2, rfl, by decide, by decide⟩
    · exact ⟨3, rfl, by decide, by decide⟩
    · exact ⟨6, rfl, by decide, by decide⟩
    · exact ⟨9, rfl, by decide, by decide⟩
  refine ⟨u, l, rfl, hu3, by omega, fun row st4 dr4 hrow => ?_⟩
  have hu4 := hu3.drew dr4
  have d4 : Drew st0 u st4 := ((dr1.trans dr2).trans dr3).trans dr4
  refine ⟨rfl, l, rfl, hl, ?_⟩
  have hc : (combA 2 l).length ≤ 35 := comb_le hl
  have hcn := comb_nd hn
  simp only [sIf, sSeq, sRet, sRetN, sAsg, sSet, sDrop, sNext, sNever, sPar, sFor, sFldD, mNot, mTv, mAnd, mOr, mAndV, mOrV, mNotV, mBin, mUn, mC, mCall, mCons, mNil, mTup, mLst, mLstC, mFn, mFnK, mCallL, mLenO, mLz, mIdx, DL.iZip, DL.iEnS, cSortT, mDic0, mDit0, gSubT, iCbR, cMinT, cMaxT, mIf, mChain, mFld, mIsC, mJoin, mSl, pNo, pSo, mLc, mLcC, mLc2, mLcK, mDc, mDcC, mIsi, mBack, mApp, mPop, mMake, mMeth, mHeard, iSeq, iRng1', iRng2', iEn, iCb, gNm, gTup1, gCons', gNil', gSub', mNm, mYes, startD, wipeD, isB, isI, isS, List.map_cons, List.map_nil, List.length_cons, List.length_nil, List.replicate_succ, List.replicate_zero, List.cons_append, List.nil_append, List.getElem?_cons_zero, List.getElem?_cons_succ, List.set_cons_zero, List.set_cons_succ, Nat.reduceAdd, Nat.reduceSub, if_true, true_and, ix20, ix21, oAdd_ii, oAdd_ss, oAdd_tt, oAdd_ll, oSub_ii, oMul_ii, oDiv_ii, oMod_ii, oPow_ii, oNeg_i, oLt_ii, oLe_ii, oGt_ii, oGe_ii, oEq_ii, oNe_ii, oEq_ss, oNe_ss, cInt_i, cInt_b, cAbs_i, cLen_s, cLen_l, cLen_f, cLen_t, cMin_2, cMax_2, cMax_3, cTuple_l, cTuple_t, cDivmod_ii, cListC_s, items_l, items_t, items_s, Nat.reduceLeDiff]
  refine ⟨by rw [List.length_map]; omega, ?_⟩
  refine lcD_rel0 (KnR st0 u l) ⟨fun _ => 0, d4, rfl, fun _ => ⟨Int.le_refl _, by show (0 : Int) ≤ 9; decide⟩⟩ ?_ ?_
  · rintro j r ys st hj ⟨fv, dr, rfl, hv⟩
    refine ⟨trivial, fun K1 K0 h1 _ => ?_⟩
    simp only [sIf, sSeq, sRet, sRetN, sAsg, sSet, sDrop, sNext, sNever, sPar, sFor, sFldD, mNot, mTv, mAnd, mOr, mAndV, mOrV, mNotV, mBin, mUn, mC, mCall, mCons, mNil, mTup, mLst, mLstC, mFn, mFnK, mCallL, mLenO, mLz, mIdx, DL.iZip, DL.iEnS, cSortT, mDic0, mDit0, gSubT, iCbR, cMinT, cMaxT, mIf, mChain, mFld, mIsC, mJoin, mSl, pNo, pSo, mLc, mLcC, mLc2, mLcK, mDc, mDcC, mIsi, mBack, mApp, mPop, mMake, mMeth, mHeard, iSeq, iRng1', iRng2', iEn, iCb, gNm, gTup1, gCons', gNil', gSub', mNm, mYes, startD, wipeD, isB, isI, isS, List.map_cons, List.map_nil, List.length_cons, List.length_nil, List.replicate_succ, List.replicate_zero, List.cons_append, List.nil_append, List.getElem?_cons_zero, List.getElem?_cons_succ, List.set_cons_zero, List.set_cons_succ, Nat.reduceAdd, Nat.reduceSub, if_true, true_and, ix20, ix21, oAdd_ii, oAdd_ss, oAdd_tt, oAdd_ll, oSub_ii, oMul_ii, oDiv_ii, oMod_ii, oPow_ii, oNeg_i, oLt_ii, oLe_ii, oGt_ii, oGe_ii, oEq_ii, oNe_ii, oEq_ss, oNe_ss, cInt_i, cInt_b, cAbs_i, cLen_s, cLen_l, cLen_f, cLen_t, cMin_2, cMax_2, cMax_3, cTuple_l, cTuple_t, cDivmod_ii, cListC_s, items_l, items_t, items_s, Nat.reduceLeDiff]
    refine ⟨u, tp + 1, ?_, hu.drew dr, by omega, by omega, fun v st' dr' hv' => ?_⟩
    · show [D.cel u, D.int ((tp : Int) + 1)] = _
      rw [show ((tp : Int) + 1) = ((tp + 1 : Nat) : Int) by omega]
    refine h1 _ _ ⟨fun s => if s = r then (v : Int) else fv s, dr.trans dr', ?_, fun s => ?_⟩
    · rw [take_snoc hj, List.map_append]
      congr 1
      · refine List.map_congr_left fun s hs => ?_
        have : s ≠ r := fun z => by
          subst z
          obtain ⟨i, hi⟩ := List.mem_iff_getElem?.mp hs
          rw [List.getElem?_take] at hi
          split at hi
          · rename_i hlt
            obtain ⟨a1, a2⟩ := List.getElem?_eq_some_iff.mp hi
            obtain ⟨b1, b2⟩ := List.getElem?_eq_some_iff.mp hj
            exact (List.pairwise_iff_getElem.mp (List.nodup_iff_pairwise_ne.mp hcn) i j a1 b1 hlt) (a2.trans b2.symm)
          · cases hi
        dsimp only
        rw [if_neg this]
      · rw [List.map_cons, List.map_nil]
        dsimp only
        rw [if_pos rfl]
    · dsimp only
      split
      · omega
      · exact hv s
  rintro ys st5 ⟨fv, d5, rfl, hv⟩
  refine ⟨trivial, ?_⟩
  rw [List.take_length]
  refine cDict_map (k := fun r => r) (d := fun r => .int (fv r)) ?_
  rw [merge_known hn]
  have hu5 := hu.drew d5
  have fin : ∀ (fv : List Nat → Int) (st : Store) (ex : Store), Drew st0 u st → fvOk l fv → S_law_both (st ++ ex) [.str l, .dic (knownK l fv)] fun x st1 => exitF st0 Qd (.tup [.str l, x]) st1 :=
    fun fv st ex dr hf => ⟨l, fv, rfl, hn, hl, hf, fun kvs far hK hO => exit_tupD ex hu dr hK.pl (k l kvs far st dr hN hK hO)⟩
  have fin0 : ∀ (fv : List Nat → Int) (st : Store), Drew st0 u st → fvOk l fv → S_law_both st [.str l, .dic (knownK l fv)] fun x st1 => exitF st0 Qd (.tup [.str l, x]) st1 := fun fv st dr hf => by
    have := fin fv st [] dr hf
    rwa [List.append_nil] at this
  have hv5 : fvOk l fv := fun r _ => ⟨(hv r).1, by have := (hv r).2; omega⟩
  by_cases w1 : way = 1
  · subst w1
    simp only [sIf, sSeq, sRet, sRetN, sAsg, sSet, sDrop, sNext, sNever, sPar, sFor, sFldD, mNot, mTv, mAnd, mOr, mAndV, mOrV, mNotV, mBin, mUn, mC, mCall, mCons, mNil, mTup, mLst, mLstC, mFn, mFnK, mCallL, mLenO, mLz, mIdx, DL.iZip, DL.iEnS, cSortT, mDic0, mDit0, gSubT, iCbR, cMinT, cMaxT, mIf, mChain, mFld, mIsC, mJoin, mSl, pNo, pSo, mLc, mLcC, mLc2, mLcK, mDc, mDcC, mIsi, mBack, mApp, mPop, mMake, mMeth, mHeard, iSeq, iRng1', iRng2', iEn, iCb, gNm, gTup1, gCons', gNil', gSub', mNm, mYes, startD, wipeD, isB, isI, isS, List.map_cons, List.map_nil, List.length_cons, List.length_nil, List.replicate_succ, List.replicate_zero, List.cons_append, List.nil_append, List.getElem?_cons_zero, List.getElem?_cons_succ, List.set_cons_zero, List.set_cons_succ, Nat.reduceAdd, Nat.reduceSub, if_true, true_and, ix20, ix21, oAdd_ii, oAdd_ss, oAdd_tt, oAdd_ll, oSub_ii, oMul_ii, oDiv_ii, oMod_ii, oPow_ii, oNeg_i, oLt_ii, oLe_ii, oGt_ii, oGe_ii, oEq_ii, oNe_ii, oEq_ss, oNe_ss, cInt_i, cInt_b, cAbs_i, cLen_s, cLen_l, cLen_f, cLen_t, cMin_2, cMax_2, cMax_3, cTuple_l, cTuple_t, cDivmod_ii, cListC_s, items_l, items_t, items_s, Nat.reduceLeDiff]
    refine iteT ⟨l, fv, rfl, hn, hl, hv5, fun kvs far hK hO => ?_⟩
    refine ⟨l, st5.length, kvs, far, rfl, last_at _ _, hn, hl, hK, hO, fun kvs' far' hK' hO' => ?_⟩
    rw [set_last]
    have := exit_tupD [] hu d5 hK'.pl (k l kvs' far' st5 d5 hN hK' hO')
    rwa [List.append_nil] at this
  have d1 : decide ((way : Int) = 1) = false := decide_eq_false (by omega)
  simp only [sIf, sSeq, sRet, sRetN, sAsg, sSet, sDrop, sNext, sNever, sPar, sFor, sFldD, mNot, mTv, mAnd, mOr, mAndV, mOrV, mNotV, mBin, mUn, mC, mCall, mCons, mNil, mTup, mLst, mLstC, mFn, mFnK, mCallL, mLenO, mLz, mIdx, DL.iZip, DL.iEnS, cSortT, mDic0, mDit0, gSubT, iCbR, cMinT, cMaxT, mIf, mChain, mFld, mIsC, mJoin, mSl, pNo, pSo, mLc, mLcC, mLc2, mLcK, mDc, mDcC, mIsi, mBack, mApp, mPop, mMake, mMeth, mHeard, iSeq, iRng1', iRng2', iEn, iCb, gNm, gTup1, gCons', gNil', gSub', mNm, mYes, startD, wipeD, isB, isI, isS, List.map_cons, List.map_nil, List.length_cons, List.length_nil, List.replicate_succ, List.replicate_zero, List.cons_append, List.nil_append, List.getElem?_cons_zero, List.getElem?_cons_succ, List.set_cons_zero, List.set_cons_succ, Nat.reduceAdd, Nat.reduceSub, if_true, true_and, ix20, ix21, oAdd_ii, oAdd_ss, oAdd_tt, oAdd_ll, oSub_ii, oMul_ii, oDiv_ii, oMod_ii, oPow_ii, oNeg_i, oLt_ii, oLe_ii, oGt_ii, oGe_ii, oEq_ii, oNe_ii, oEq_ss, oNe_ss, cInt_i, cInt_b, cAbs_i, cLen_s, cLen_l, cLen_f, cLen_t, cMin_2, cMax_2, cMax_3, cTuple_l, cTuple_t, cDivmod_ii, cListC_s, items_l, items_t, items_s, Nat.reduceLeDiff]
  rw [d1]
  refine iteF ?_
  by_cases w23 : way = 2 ∨ way = 3
  · have d23 : (false != inF (.int (way : Int)) [.int 2, .int 3]) = true := by
      rcases w23 with rfl | rfl <;> decide +kernel
    refine oIn_ll rfl rfl ?_
    rw [d23]
    refine iteT ?_
    refine ⟨u, 5, rfl, hu5.ext _, by decide, by decide, fun v st6 dr6 hv6 => ?_⟩
    obtain ⟨st7, dr7, rfl⟩ := dr6.ext hu5
    have hl5 := d5.len
    have hl7 := dr7.len
    simp only [sIf, sSeq, sRet, sRetN, sAsg, sSet, sDrop, sNext, sNever, sPar, sFor, sFldD, mNot, mTv, mAnd, mOr, mAndV, mOrV, mNotV, mBin, mUn, mC, mCall, mCons, mNil, mTup, mLst, mLstC, mFn, mFnK, mCallL, mLenO, mLz, mIdx, DL.iZip, DL.iEnS, cSortT, mDic0, mDit0, gSubT, iCbR, cMinT, cMaxT, mIf, mChain, mFld, mIsC, mJoin, mSl, pNo, pSo, mLc, mLcC, mLc2, mLcK, mDc, mDcC, mIsi, mBack, mApp, mPop, mMake, mMeth, mHeard, iSeq, iRng1', iRng2', iEn, iCb, gNm, gTup1, gCons', gNil', gSub', mNm, mYes, startD, wipeD, isB, isI, isS, List.map_cons, List.map_nil, List.length_cons, List.length_nil, List.replicate_succ, List.replicate_zero, List.cons_append, List.nil_append, List.getElem?_cons_zero, List.getElem?_cons_succ, List.set_cons_zero, List.set_cons_succ, Nat.reduceAdd, Nat.reduceSub, if_true, true_and, ix20, ix21, oAdd_ii, oAdd_ss, oAdd_tt, oAdd_ll, oSub_ii, oMul_ii, oDiv_ii, oMod_ii, oPow_ii, oNeg_i, oLt_ii, oLe_ii, oGt_ii, oGe_ii, oEq_ii, oNe_ii, oEq_ss, oNe_ss, cInt_i, cInt_b, cAbs_i, cLen_s, cLen_l, cLen_f, cLen_t, cMin_2, cMax_2, cMax_3, cTuple_l, cTuple_t, cDivmod_ii, cListC_s, items_l, items_t, items_s, Nat.reduceLeDiff]
    refine ⟨⟨by omega, by omega⟩, ?_⟩
    refine forD_rel0 (l := List.range ((1 : Int) + v).toNat) (e := fun (i : Nat) => D.int (0 + i)) (fun i ρ st => ∃ (st8 : Store) (ms : List (List Nat × Int)) (y10 y11 y12 : Option D), Drew st0 u st8 ∧ st = st8 ++ [.lst (marksD ms)] ∧ ms.length = i ∧ (∀ m ∈ ms, 0 ≤ m.2 ∧ m.2 ≤ 1000) ∧ ρ = [some (.cel u), some (.int a), some (.int b), some (.str l), some (.int way), some (.int tp), some (.lst (sg row)), some (.dic (knownK l fv)), none, some (.cel st0.length), y10, y11, y12]) ⟨st7, [], none, none, none, d5.trans dr7, rfl, rfl, (fun m hm => nomatch hm), ?_⟩ ?_ ?_
    · rw [← hl5]
    · rintro j i ρ st hj ⟨st8, ms, y10, y11, y12, d8, rfl, hml, hms, rfl⟩
      obtain ⟨rfl, hi⟩ := rng_get hj
      refine ⟨trivial, fun N hN => ?_⟩
      have hu8 := hu.drew d8
      have hrl : row.length = l.length := hrow.length_eq
      simp only [sIf, sSeq, sRet, sRetN, sAsg, sSet, sDrop, sNext, sNever, sPar, sFor, sFldD, mNot, mTv, mAnd, mOr, mAndV, mOrV, mNotV, mBin, mUn, mC, mCall, mCons, mNil, mTup, mLst, mLstC, mFn, mFnK, mCallL, mLenO, mLz, mIdx, DL.iZip, DL.iEnS, cSortT, mDic0, mDit0, gSubT, iCbR, cMinT, cMaxT, mIf, mChain, mFld, mIsC, mJoin, mSl, pNo, pSo, mLc, mLcC, mLc2, mLcK, mDc, mDcC, mIsi, mBack, mApp, mPop, mMake, mMeth, mHeard, iSeq, iRng1', iRng2', iEn, iCb, gNm, gTup1, gCons', gNil', gSub', mNm, mYes, startD, wipeD, isB, isI, isS, List.map_cons, List.map_nil, List.length_cons, List.length_nil, List.replicate_succ, List.replicate_zero, List.cons_append, List.nil_append, List.getElem?_cons_zero, List.getElem?_cons_succ, List.set_cons_zero, List.set_cons_succ, Nat.reduceAdd, Nat.reduceSub, if_true, true_and, ix20, ix21, oAdd_ii, oAdd_ss, oAdd_tt, oAdd_ll, oSub_ii, oMul_ii, oDiv_ii, oMod_ii, oPow_ii, oNeg_i, oLt_ii, oLe_ii, oGt_ii, oGe_ii, oEq_ii, oNe_ii, oEq_ss, oNe_ss, cInt_i, cInt_b, cAbs_i, cLen_s, cLen_l, cLen_f, cLen_t, cMin_2, cMax_2, cMax_3, cTuple_l, cTuple_t, cDivmod_ii, cListC_s, items_l, items_t, items_s, Nat.reduceLeDiff]
      rw [sg_len, hrl]
      refine ⟨u, l.length, rfl, hu8.ext _, by omega, by omega, fun vb st9 dr9 hvb => ?_⟩
      obtain ⟨st10, dr10, rfl⟩ := dr9.ext hu8
      have hu10 := hu8.drew dr10
      simp only [sIf, sSeq, sRet, sRetN, sAsg, sSet, sDrop, sNext, sNever, sPar, sFor, sFldD, mNot, mTv, mAnd, mOr, mAndV, mOrV, mNotV, mBin, mUn, mC, mCall, mCons, mNil, mTup, mLst, mLstC, mFn, mFnK, mCallL, mLenO, mLz, mIdx, DL.iZip, DL.iEnS, cSortT, mDic0, mDit0, gSubT, iCbR, cMinT, cMaxT, mIf, mChain, mFld, mIsC, mJoin, mSl, pNo, pSo, mLc, mLcC, mLc2, mLcK, mDc, mDcC, mIsi, mBack, mApp, mPop, mMake, mMeth, mHeard, iSeq, iRng1', iRng2', iEn, iCb, gNm, gTup1, gCons', gNil', gSub', mNm, mYes, startD, wipeD, isB, isI, isS, List.map_cons, List.map_nil, List.length_cons, List.length_nil, List.replicate_succ, List.replicate_zero, List.cons_append, List.nil_append, List.getElem?_cons_zero, List.getElem?_cons_succ, List.set_cons_zero, List.set_cons_succ, Nat.reduceAdd, Nat.reduceSub, if_true, true_and, ix20, ix21, oAdd_ii, oAdd_ss, oAdd_tt, oAdd_ll, oSub_ii, oMul_ii, oDiv_ii, oMod_ii, oPow_ii, oNeg_i, oLt_ii, oLe_ii, oGt_ii, oGe_ii, oEq_ii, oNe_ii, oEq_ss, oNe_ss, cInt_i, cInt_b, cAbs_i, cLen_s, cLen_l, cLen_f, cLen_t, cMin_2, cMax_2, cMax_3, cTuple_l, cTuple_t, cDivmod_ii, cListC_s, items_l, items_t, items_s, Nat.reduceLeDiff]
      have rest : ∀ (e : Int) (st11 : Store), Drew st10 u st11 → isCel (st11 ++ [.lst (marksD ms)]) (.cel st0.length) fun n _ => slD (st11 ++ [.lst (marksD ms)]) (.lst (sg row)) (some (vb : Int)) (some e) fun x st1 => S_law_cast st1 [.cel u, .int ((tp : Int) + 1)] fun x_1 st1 => isCel st1 (.cel n) fun n xs => xs.length < 1000000 ∧ N [some (.cel u), some (.int a), some (.int b), some (.str l), some (.int way), some (.int tp), some (.lst (sg row)), some (.dic (knownK l fv)), none, some (.cel st0.length), some (.int (0 + (i : Nat))), some (.int vb), some (.int e)] (st1.set n (.lst (xs ++ [.tup [x, x_1]]))) := by
        intro e st11 dr11
        have hu11 := hu10.drew dr11
        have e11 : st11.length = st0.length := by rw [dr11.len, dr10.len, d8.len]
        have at11 : (st11 ++ [.lst (marksD ms)])[st0.length]? = some (.lst (marksD ms)) := by rw [← e11]; exact last_at _ _
        refine isCel_of at11 ?_
        rw [slD_lst]
        refine ⟨u, tp + 1, ?_, hu11.ext _, by omega, by omega, fun v2 st12 dr12 hv2 => ?_⟩
        · rw [show ((tp : Int) + 1) = ((tp + 1 : Nat) : Int) by omega]
        obtain ⟨st13, dr13, rfl⟩ := dr12.ext hu11
        have e13 : st13.length = st0.length := by rw [dr13.len, e11]
        have at13 : (st13 ++ [.lst (marksD ms)])[st0.length]? = some (.lst (marksD ms)) := by rw [← e13]; exact last_at _ _
        refine isCel_of at13 ⟨by unfold marksD; rw [List.length_map]; omega, ?_⟩
        obtain ⟨p, hp⟩ : ∃ p, DL.cutD (sg row) (some (vb : Int)) (some e) = sg p := by
          unfold DL.cutD sg
          rw [← List.map_drop, ← List.map_take]
          exact ⟨_, rfl⟩
        refine hN _ _ ⟨st13, ms ++ [(p, (v2 : Int))], some (.int (0 + (i : Nat))), some (.int vb), some (.int e), ((d8.trans dr10).trans dr11).trans dr13, ?_, ?_, fun m hm => ?_, rfl⟩
        · rw [← e13, set_last]
          unfold marksD
          rw [List.map_append, hp]
          rfl
        · rw [List.length_append, List.length_singleton, hml]
        · rcases List.mem_append.mp hm with hm | hm
          · exact hms m hm
          · rw [List.mem_singleton.mp hm]
            exact ⟨by show (0 : Int) ≤ v2; omega, by show (v2 : Int) ≤ 1000; omega⟩
      by_cases w2 : way = 2
      · have d2 : decide ((way : Int) = 2) = true := decide_eq_true (by omega)
        rw [d2]
        refine iteT ?_
        have e1 : ((l.length : Int) - (vb : Int)) = ((l.length - vb : Nat) : Int) := by omega
        rw [e1]
        refine ⟨u, l.length - vb, rfl, hu10.ext _, by omega, by omega, fun ve st11 dr11 hve => ?_⟩
        obtain ⟨st12, dr12, rfl⟩ := dr11.ext hu10
        exact rest _ _ dr12
      · have d2 : decide ((way : Int) = 2) = false := decide_eq_false (by omega)
        rw [d2]
        exact iteF (rest _ _ (.refl hu10))
    · rintro ρ st ⟨st8, ms, y10, y11, y12, d8, rfl, hml, hms, rfl⟩
      refine ⟨trivial, ?_⟩
      have hl8 := d8.len
      rw [List.length_range] at hml
      simp only [sIf, sSeq, sRet, sRetN, sAsg, sSet, sDrop, sNext, sNever, sPar, sFor, sFldD, mNot, mTv, mAnd, mOr, mAndV, mOrV, mNotV, mBin, mUn, mC, mCall, mCons, mNil, mTup, mLst, mLstC, mFn, mFnK, mCallL, mLenO, mLz, mIdx, DL.iZip, DL.iEnS, cSortT, mDic0, mDit0, gSubT, iCbR, cMinT, cMaxT, mIf, mChain, mFld, mIsC, mJoin, mSl, pNo, pSo, mLc, mLcC, mLc2, mLcK, mDc, mDcC, mIsi, mBack, mApp, mPop, mMake, mMeth, mHeard, iSeq, iRng1', iRng2', iEn, iCb, gNm, gTup1, gCons', gNil', gSub', mNm, mYes, startD, wipeD, isB, isI, isS, List.map_cons, List.map_nil, List.length_cons, List.length_nil, List.replicate_succ, List.replicate_zero, List.cons_append, List.nil_append, List.getElem?_cons_zero, List.getElem?_cons_succ, List.set_cons_zero, List.set_cons_succ, Nat.reduceAdd, Nat.reduceSub, if_true, true_and, ix20, ix21, oAdd_ii, oAdd_ss, oAdd_tt, oAdd_ll, oSub_ii, oMul_ii, oDiv_ii, oMod_ii, oPow_ii, oNeg_i, oLt_ii, oLe_ii, oGt_ii, oGe_ii, oEq_ii, oNe_ii, oEq_ss, oNe_ss, cInt_i, cInt_b, cAbs_i, cLen_s, cLen_l, cLen_f, cLen_t, cMin_2, cMax_2, cMax_3, cTuple_l, cTuple_t, cDivmod_ii, cListC_s, items_l, items_t, items_s, Nat.reduceLeDiff]
      refine ⟨l, st0.length, ms, rfl, by rw [← hl8]; exact last_at _ _, hn, hl, by omega, hms, fun fv2 hf2 => ?_⟩
      have d4' : decide ((way : Int) = 4) = false := decide_eq_false (by omega)
      have d5' : decide ((way : Int) = 5) = false := decide_eq_false (by omega)
      simp only [sIf, sSeq, sRet, sRetN, sAsg, sSet, sDrop, sNext, sNever, sPar, sFor, sFldD, mNot, mTv, mAnd, mOr, mAndV, mOrV, mNotV, mBin, mUn, mC, mCall, mCons, mNil, mTup, mLst, mLstC, mFn, mFnK, mCallL, mLenO, mLz, mIdx, DL.iZip, DL.iEnS, cSortT, mDic0, mDit0, gSubT, iCbR, cMinT, cMaxT, mIf, mChain, mFld, mIsC, mJoin, mSl, pNo, pSo, mLc, mLcC, mLc2, mLcK, mDc, mDcC, mIsi, mBack, mApp, mPop, mMake, mMeth, mHeard, iSeq, iRng1', iRng2', iEn, iCb, gNm, gTup1, gCons', gNil', gSub', mNm, mYes, startD, wipeD, isB, isI, isS, List.map_cons, List.map_nil, List.length_cons, List.length_nil, List.replicate_succ, List.replicate_zero, List.cons_append, List.nil_append, List.getElem?_cons_zero, List.getElem?_cons_succ, List.set_cons_zero, List.set_cons_succ, Nat.reduceAdd, Nat.reduceSub, if_true, true_and, ix20, ix21, oAdd_ii, oAdd_ss, oAdd_tt, oAdd_ll, oSub_ii, oMul_ii, oDiv_ii, oMod_ii, oPow_ii, oNeg_i, oLt_ii, oLe_ii, oGt_ii, oGe_ii, oEq_ii, oNe_ii, oEq_ss, oNe_ss, cInt_i, cInt_b, cAbs_i, cLen_s, cLen_l, cLen_f, cLen_t, cMin_2, cMax_2, cMax_3, cTuple_l, cTuple_t, cDivmod_ii, cListC_s, items_l, items_t, items_s, Nat.reduceLeDiff]
      rw [d4']
      refine iteF ?_
      rw [d5']
      exact iteF (fin fv2 st8 _ d8 hf2)
  have d23 : (false != inF (.int (way : Int)) [.int 2, .int 3]) = false := by
    have : way = 0 ∨ way = 4 ∨ way = 5 := by omega
    rcases this with rfl | rfl | rfl <;> decide +kernel
  refine oIn_ll rfl rfl ?_
  rw [d23]
  refine iteF ?_
  have hk7 : (knownK l fv).length ≤ 1000000 := by unfold knownK; rw [List.length_map]; omega
  by_cases w4 : way = 4
  · have d4' : decide ((way : Int) = 4) = true := decide_eq_true (by omega)
    have d5' : decide ((way : Int) = 5) = false := decide_eq_false (by omega)
    rw [d4']
    refine iteT ⟨hk7, ?_⟩
    rw [known_keys]
    refine lcD_m (f := fun r => D.tup [.str r, .int (1 + fv r % 2)]) (fun r hr K1 q => ?_) trivial ?_
    · simp only [sIf, sSeq, sRet, sRetN, sAsg, sSet, sDrop, sNext, sNever, sPar, sFor, sFldD, mNot, mTv, mAnd, mOr, mAndV, mOrV, mNotV, mBin, mUn, mC, mCall, mCons, mNil, mTup, mLst, mLstC, mFn, mFnK, mCallL, mLenO, mLz, mIdx, DL.iZip, DL.iEnS, cSortT, mDic0, mDit0, gSubT, iCbR, cMinT, cMaxT, mIf, mChain, mFld, mIsC, mJoin, mSl, pNo, pSo, mLc, mLcC, mLc2, mLcK, mDc, mDcC, mIsi, mBack, mApp, mPop, mMake, mMeth, mHeard, iSeq, iRng1', iRng2', iEn, iCb, gNm, gTup1, gCons', gNil', gSub', mNm, mYes, startD, wipeD, isB, isI, isS, List.map_cons, List.map_nil, List.length_cons, List.length_nil, List.replicate_succ, List.replicate_zero, List.cons_append, List.nil_append, List.getElem?_cons_zero, List.getElem?_cons_succ, List.set_cons_zero, List.set_cons_succ, Nat.reduceAdd, Nat.reduceSub, if_true, true_and, ix20, ix21, oAdd_ii, oAdd_ss, oAdd_tt, oAdd_ll, oSub_ii, oMul_ii, oDiv_ii, oMod_ii, oPow_ii, oNeg_i, oLt_ii, oLe_ii, oGt_ii, oGe_ii, oEq_ii, oNe_ii, oEq_ss, oNe_ss, cInt_i, cInt_b, cAbs_i, cLen_s, cLen_l, cLen_f, cLen_t, cMin_2, cMax_2, cMax_3, cTuple_l, cTuple_t, cDivmod_ii, cListC_s, items_l, items_t, items_s, Nat.reduceLeDiff]
      refine oIx_dic (k := .inr r) rfl rfl (known_look hr) ?_
      exact ⟨by decide, q⟩
    · refine cDict_map (k := fun r => r) (d := fun r => .int (1 + fv r % 2)) ?_
      rw [merge_known hn (fun r => 1 + fv r % 2), d5']
      refine iteF (fin0 _ st5 d5 fun r _ => ?_)
      have := Int.emod_nonneg (fv r) (show (2 : Int) ≠ 0 by decide)
      have := Int.emod_lt_of_pos (fv r) (show (0 : Int) < 2 by decide)
      omega
  have d4' : decide ((way : Int) = 4) = false := decide_eq_false (by omega)
  rw [d4']
  refine iteF ?_
  by_cases w5 : way = 5
  · have d5' : decide ((way : Int) = 5) = true := decide_eq_true (by omega)
    rw [d5']
    refine iteT ⟨hk7, ?_⟩
    rw [known_keys]
    refine lcD_m (f := fun r => D.tup [.str r, .int (mn (10 ^ Int.toNat 6) (fv r * 111112))]) (fun r hr K1 q => ?_) trivial ?_
    · simp only [sIf, sSeq, sRet, sRetN, sAsg, sSet, sDrop, sNext, sNever, sPar, sFor, sFldD, mNot, mTv, mAnd, mOr, mAndV, mOrV, mNotV, mBin, mUn, mC, mCall, mCons, mNil, mTup, mLst, mLstC, mFn, mFnK, mCallL, mLenO, mLz, mIdx, DL.iZip, DL.iEnS, cSortT, mDic0, mDit0, gSubT, iCbR, cMinT, cMaxT, mIf, mChain, mFld, mIsC, mJoin, mSl, pNo, pSo, mLc, mLcC, mLc2, mLcK, mDc, mDcC, mIsi, mBack, mApp, mPop, mMake, mMeth, mHeard, iSeq, iRng1', iRng2', iEn, iCb, gNm, gTup1, gCons', gNil', gSub', mNm, mYes, startD, wipeD, isB, isI, isS, List.map_cons, List.map_nil, List.length_cons, List.length_nil, List.replicate_succ, List.replicate_zero, List.cons_append, List.nil_append, List.getElem?_cons_zero, List.getElem?_cons_succ, List.set_cons_zero, List.set_cons_succ, Nat.reduceAdd, Nat.reduceSub, if_true, true_and, ix20, ix21, oAdd_ii, oAdd_ss, oAdd_tt, oAdd_ll, oSub_ii, oMul_ii, oDiv_ii, oMod_ii, oPow_ii, oNeg_i, oLt_ii, oLe_ii, oGt_ii, oGe_ii, oEq_ii, oNe_ii, oEq_ss, oNe_ss, cInt_i, cInt_b, cAbs_i, cLen_s, cLen_l, cLen_f, cLen_t, cMin_2, cMax_2, cMax_3, cTuple_l, cTuple_t, cDivmod_ii, cListC_s, items_l, items_t, items_s, Nat.reduceLeDiff]
      refine ⟨⟨by decide, by decide, by decide⟩, ?_⟩
      refine oIx_dic (k := .inr r) rfl rfl (known_look hr) ?_
      simp only [sIf, sSeq, sRet, sRetN, sAsg, sSet, sDrop, sNext, sNever, sPar, sFor, sFldD, mNot, mTv, mAnd, mOr, mAndV, mOrV, mNotV, mBin, mUn, mC, mCall, mCons, mNil, mTup, mLst, mLstC, mFn, mFnK, mCallL, mLenO, mLz, mIdx, DL.iZip, DL.iEnS, cSortT, mDic0, mDit0, gSubT, iCbR, cMinT, cMaxT, mIf, mChain, mFld, mIsC, mJoin, mSl, pNo, pSo, mLc, mLcC, mLc2, mLcK, mDc, mDcC, mIsi, mBack, mApp, mPop, mMake, mMeth, mHeard, iSeq, iRng1', iRng2', iEn, iCb, gNm, gTup1, gCons', gNil', gSub', mNm, mYes, startD, wipeD, isB, isI, isS, List.map_cons, List.map_nil, List.length_cons, List.length_nil, List.replicate_succ, List.replicate_zero, List.cons_append, List.nil_append, List.getElem?_cons_zero, List.getElem?_cons_succ, List.set_cons_zero, List.set_cons_succ, Nat.reduceAdd, Nat.reduceSub, if_true, true_and, ix20, ix21, oAdd_ii, oAdd_ss, oAdd_tt, oAdd_ll, oSub_ii, oMul_ii, oDiv_ii, oMod_ii, oPow_ii, oNeg_i, oLt_ii, oLe_ii, oGt_ii, oGe_ii, oEq_ii, oNe_ii, oEq_ss, oNe_ss, cInt_i, cInt_b, cAbs_i, cLen_s, cLen_l, cLen_f, cLen_t, cMin_2, cMax_2, cMax_3, cTuple_l, cTuple_t, cDivmod_ii, cListC_s, items_l, items_t, items_s, Nat.reduceLeDiff]
      exact ⟨.inl (.inr ⟨by decide, by decide⟩), q⟩
    · refine cDict_map (k := fun r => r) (d := fun r => .int (mn (10 ^ Int.toNat 6) (fv r * 111112))) ?_
      rw [merge_known hn (fun r => mn (10 ^ Int.toNat 6) (fv r * 111112))]
      refine fin0 _ st5 d5 fun r _ => ?_
      have h1 := mn_le (10 ^ Int.toNat 6) (fv r * 111112)
      have h2 := hv r
      have e6 : ((10 : Int) ^ Int.toNat 6) = 1000000 := by decide
      rw [e6] at h1 ⊢
      omega
  have d5' : decide ((way : Int) = 5) = false := decide_eq_false (by omega)
  rw [d5']
  exact iteF (fin0 fv st5 d5 hv5)
end
end K20d
set_option Elab.async false
set_option linter.all false
set_option maxRecDepth 100000
set_option maxHeartbeats 4000000
/-! rooms, strengths: what is true of them -/
namespace Md
open PySem PySem.Spec PyProof.Rows L2 Nf DL Nd Pd Ld
section
variable {l : List Nat} {far : Nat → Nat → Int} {a b c d : Nat}
theorem mx3 (w x y : Int) : mx (mx w x) y = mx (mx w y) x := by unfold mx; (repeat' split) <;> omega
theorem room_swap1 (F : FarOk l far) (ha : a ∈ l) (hb : b ∈ l) : roomM far b a c d = roomM far a b c d := by
  unfold roomM
  rw [F.sym b hb a ha, mx3, Int.add_comm (far b d), Int.add_comm (far b c)]
theorem room_swap2 (F : FarOk l far) (hc : c ∈ l) (hd : d ∈ l) : roomM far a b d c = roomM far a b c d := by
  unfold roomM
  rw [F.sym d hd c hc, mx3]
theorem room_exch (F : FarOk l far) (ha : a ∈ l) (hb : b ∈ l) (hc : c ∈ l) (hd : d ∈ l) : roomM far c d a b = roomM far a b c d := by
  unfold roomM
  rw [F.sym c hc a ha, F.sym d hd b hb, F.sym c hc b hb, F.sym d hd a ha, Int.add_comm (far c d), Int.add_comm (far b c)]
theorem twos_has : ∀ {l : List Nat} {a b : Nat}, a ∈ l → b ∈ l → (a, b) ∈ twosL l ∨ (b, a) ∈ twosL l
  | x :: l, a, b, ha, hb => by
    rw [twosL]
    simp only [List.mem_append]
    rcases List.mem_cons.mp ha with rfl | ha'
    · exact .inl (.inl (List.mem_map.mpr ⟨b, hb, rfl⟩))
    · rcases List.mem_cons.mp hb with rfl | hb'
      · exact .inr (.inl (List.mem_map.mpr ⟨a, ha, rfl⟩))
      · rcases twos_has ha' hb' with h | h
        · exact .inl (.inr h)
        · exact .inr (.inr h)
theorem rooms_mem {p : List Nat} {v : Int} : v ∈ roomsL l far p ↔ ∃ t ∈ twosL (otherM l p), ∃ o ∈ twosL p, v = roomM far t.1 t.2 o.1 o.2 := by
  unfold roomsL
  simp only [List.mem_flatten, List.mem_map]
  constructor
  · rintro ⟨xs, ⟨t, ht, rfl⟩, hv⟩
    obtain ⟨o, ho, rfl⟩ := List.mem_map.mp hv
    exact ⟨t, ht, o, ho, rfl⟩
  · rintro ⟨t, ht, o, ho, rfl⟩
    exact ⟨_, ⟨t, ht, rfl⟩, List.mem_map.mpr ⟨o, ho, rfl⟩⟩
/-- any two of the lot against any two of the others -/
theorem rooms_has {p : List Nat} (F : FarOk l far) (hsub : ∀ x ∈ p, x ∈ l) (ha : a ∈ p) (hb : b ∈ p) (hc : c ∈ otherM l p) (hd : d ∈ otherM l p) : roomM far a b c d ∈ roomsL l far p := by
  have la := hsub a ha
  have lb := hsub b hb
  have lc := other_mem hc
  have ld := other_mem hd
  rw [rooms_mem]
  rcases twos_has hc hd with t | t <;> rcases twos_has ha hb with o | o
  · exact ⟨_, t, _, o, (room_exch F la lb lc ld).symm⟩
  · exact ⟨_, t, _, o, by rw [room_exch F lb la lc ld, room_swap1 F la lb]⟩
  · exact ⟨_, t, _, o, by rw [room_exch F la lb ld lc, room_swap2 F lc ld]⟩
  · exact ⟨_, t, _, o, by rw [room_exch F lb la ld lc, room_swap1 F la lb, room_swap2 F lc ld]⟩
theorem minL_mem : ∀ {ns : List Int}, ns ≠ [] → minL ns ∈ ns ∧ ∀ v ∈ ns, minL ns ≤ v
  | [], h => absurd rfl h
  | n :: ns, _ => mn_fold ns n
theorem minL_eq {ns ms : List Int} (h : ∀ v, v ∈ ns ↔ v ∈ ms) (hn : ns ≠ []) : minL ns = minL ms := by
  have hm : ms ≠ [] := fun z => by
    obtain ⟨v, hv⟩ := List.exists_mem_of_ne_nil _ hn
    have := (h v).mp hv
    rw [z] at this; cases this
  obtain ⟨a1, a2⟩ := minL_mem hn
  obtain ⟨b1, b2⟩ := minL_mem hm
  have := a2 _ ((h _).mpr b1)
  have := b2 _ ((h _).mp a1)
  omega
/-- the law's own rooms -/
def lawR (l : List Nat) (far : Nat → Nat → Int) (p : List Nat) : List Int := p.flatMap fun a => p.flatMap fun b => (otherM l p).flatMap fun c => (otherM l p).map fun d => roomM far a b c d
theorem lawR_mem {p : List Nat} {v : Int} : v ∈ lawR l far p ↔ ∃ a ∈ p, ∃ b ∈ p, ∃ c ∈ otherM l p, ∃ d ∈ otherM l p, v = roomM far a b c d := by
  unfold lawR
  simp only [List.mem_flatMap, List.mem_map]
  constructor
  · rintro ⟨a, ha, b, hb, c, hc, d, hd, rfl⟩
    exact ⟨a, ha, b, hb, c, hc, d, hd, rfl⟩
  · rintro ⟨a, ha, b, hb, c, hc, d, hd, rfl⟩
    exact ⟨a, ha, b, hb, c, hc, d, hd, rfl⟩
theorem law_min {p : List Nat} (F : FarOk l far) (hn : l.Nodup) (h2 : 2 ≤ l.length) (hp : isPartingM p l = true) : lawR l far p ≠ [] ∧ minL (lawR l far p) = strM l far p := by
  have hsub := parting_sub hp
  have key : ∀ v, v ∈ lawR l far p ↔ v ∈ roomsL l far p := fun v => by
    rw [lawR_mem]
    constructor
    · rintro ⟨a, ha, b, hb, c, hc, d, hd, rfl⟩
      exact rooms_has F hsub ha hb hc hd
    · intro h
      obtain ⟨t, ht, o, ho, rfl⟩ := rooms_mem.mp h
      have t' := twos_mem ht
      have o' := twos_mem ho
      exact ⟨o.1, o'.1, o.2, o'.2, t.1, t'.1, t.2, t'.2, (room_exch F (hsub _ o'.1) (hsub _ o'.2) (other_mem t'.1) (other_mem t'.2))⟩
  have hne : lawR l far p ≠ [] := fun z => by
    obtain ⟨v, hv⟩ := List.exists_mem_of_ne_nil _ (rooms_some (far := far) hn h2 hp)
    have := (key v).mpr hv
    rw [z] at this; cases this
  exact ⟨hne, minL_eq key hne⟩
/-- a strength above 0: all such rooms are -/
theorem room_pos {p : List Nat} (F : FarOk l far) (hn : l.Nodup) (h2 : 2 ≤ l.length) (hp : isPartingM p l = true) (hs : 0 < strM l far p) (ha : a ∈ l) (hb : b ∈ l) (hc : c ∈ l) (hd : d ∈ l) (h : (a ∈ p ∧ b ∈ p ∧ c ∉ p ∧ d ∉ p) ∨ (a ∉ p ∧ b ∉ p ∧ c ∈ p ∧ d ∈ p)) : 0 < roomM far a b c d := by
  have hsub := parting_sub hp
  have om : ∀ {x}, x ∈ l → x ∉ p → x ∈ otherM l p := fun hx nx => List.mem_filter.mpr ⟨hx, by simp [nx]⟩
  have low : ∀ v ∈ roomsL l far p, strM l far p ≤ v := (minL_mem (rooms_some hn h2 hp)).2
  rcases h with ⟨h1, h2, h3, h4⟩ | ⟨h1, h2, h3, h4⟩
  · have := low _ (rooms_has F hsub h1 h2 (om hc h3) (om hd h4))
    omega
  · have := low _ (rooms_has F hsub h3 h4 (om ha h1) (om hb h2))
    rw [room_exch F ha hb hc hd] at this
    omega
/-- the mates of the first of four in a lot -/
def matesM (p : List Nat) (x : List Nat) : List Nat := ([1, 2, 3] : List Nat).filter fun k => decide (decide (x.getD k 0 ∈ p) = decide (x.getD 0 0 ∈ p))
def hitM (p : List Nat) (x : List Nat) : Int := match matesM p x with
  | [k] => k
  | _ => 0
theorem hit_cases {p x : List Nat} {k : Nat} (h : hitM p x = k) (hk : 0 < k) : matesM p x = [k] := by
  unfold hitM at h
  split at h
  · rename_i j e
    rw [e]
    have : j = k := by omega
    rw [this]
  · omega
theorem no_three {p q r : List Nat} {x : List Nat} (F : FarOk l far) (hn : l.Nodup) (h2 : 2 ≤ l.length) (hx : ∀ k, k < 4 → x.getD k 0 ∈ l)
    (hp : isPartingM p l = true) (hq : isPartingM q l = true) (hr : isPartingM r l = true) (sp : 0 < strM l far p) (sq : 0 < strM l far q) (sr : 0 < strM l far r)
    (h1 : hitM p x = 1) (h2' : hitM q x = 2) (h3 : hitM r x = 3) : False := by
  have side : ∀ {p : List Nat} {k : Nat}, matesM p x = [k] → ∀ j ∈ ([1, 2, 3] : List Nat), (j = k ↔ (x.getD j 0 ∈ p ↔ x.getD 0 0 ∈ p)) := fun {p k} e j hj => by
    have : j ∈ matesM p x ↔ j = k := by rw [e, List.mem_singleton]
    rw [← this]
    unfold matesM
    rw [List.mem_filter, decide_eq_true_iff, decide_eq_decide]
    exact ⟨fun z => z.2, fun z => ⟨hj, z⟩⟩
  have m0 := hx 0 (by decide)
  have m1 := hx 1 (by decide)
  have m2 := hx 2 (by decide)
  have m3 := hx 3 (by decide)
  have e1 := side (hit_cases (k := 1) h1 (by decide))
  have e2 := side (hit_cases (k := 2) h2' (by decide))
  have e3 := side (hit_cases (k := 3) h3 (by decide))
  have p1 : x.getD 1 0 ∈ p ↔ x.getD 0 0 ∈ p := (e1 1 (by simp)).mp rfl
  have p2 : ¬ (x.getD 2 0 ∈ p ↔ x.getD 0 0 ∈ p) := fun z => absurd ((e1 2 (by simp)).mpr z) (by decide)
  have p3 : ¬ (x.getD 3 0 ∈ p ↔ x.getD 0 0 ∈ p) := fun z => absurd ((e1 3 (by simp)).mpr z) (by decide)
  have q1 : ¬ (x.getD 1 0 ∈ q ↔ x.getD 0 0 ∈ q) := fun z => absurd ((e2 1 (by simp)).mpr z) (by decide)
  have q2 : x.getD 2 0 ∈ q ↔ x.getD 0 0 ∈ q := (e2 2 (by simp)).mp rfl
  have q3 : ¬ (x.getD 3 0 ∈ q ↔ x.getD 0 0 ∈ q) := fun z => absurd ((e2 3 (by simp)).mpr z) (by decide)
  have r1 : ¬ (x.getD 1 0 ∈ r ↔ x.getD 0 0 ∈ r) := fun z => absurd ((e3 1 (by simp)).mpr z) (by decide)
  have r2 : ¬ (x.getD 2 0 ∈ r ↔ x.getD 0 0 ∈ r) := fun z => absurd ((e3 2 (by simp)).mpr z) (by decide)
  have r3 : x.getD 3 0 ∈ r ↔ x.getD 0 0 ∈ r := (e3 3 (by simp)).mp rfl
  clear e1 e2 e3 side
  generalize x.getD 0 0 = a at *
  generalize x.getD 1 0 = b at *
  generalize x.getD 2 0 = c at *
  generalize x.getD 3 0 = d at *
  have A := room_pos F hn h2 hp sp m0 m1 m2 m3 (by
    by_cases z : a ∈ p
    · exact .inl ⟨z, p1.mpr z, fun y => p2 ⟨fun _ => z, fun _ => y⟩, fun y => p3 ⟨fun _ => z, fun _ => y⟩⟩
    · exact .inr ⟨z, fun y => z (p1.mp y), Classical.byContradiction fun y => p2 ⟨fun w => absurd w y, fun w => absurd w z⟩, Classical.byContradiction fun y => p3 ⟨fun w => absurd w y, fun w => absurd w z⟩⟩)
  have B := room_pos F hn h2 hq sq m0 m2 m1 m3 (by
    by_cases z : a ∈ q
    · exact .inl ⟨z, q2.mpr z, fun y => q1 ⟨fun _ => z, fun _ => y⟩, fun y => q3 ⟨fun _ => z, fun _ => y⟩⟩
    · exact .inr ⟨z, fun y => z (q2.mp y), Classical.byContradiction fun y => q1 ⟨fun w => absurd w y, fun w => absurd w z⟩, Classical.byContradiction fun y => q3 ⟨fun w => absurd w y, fun w => absurd w z⟩⟩)
  have D' := room_pos F hn h2 hr sr m0 m3 m1 m2 (by
    by_cases z : a ∈ r
    · exact .inl ⟨z, r3.mpr z, fun y => r1 ⟨fun _ => z, fun _ => y⟩, fun y => r2 ⟨fun _ => z, fun _ => y⟩⟩
    · exact .inr ⟨z, fun y => z (r3.mp y), Classical.byContradiction fun y => r1 ⟨fun w => absurd w y, fun w => absurd w z⟩, Classical.byContradiction fun y => r2 ⟨fun w => absurd w y, fun w => absurd w z⟩⟩)
  unfold roomM at A B D'
  rw [F.sym c m2 b m1] at B
  rw [F.sym d m3 c m2, F.sym d m3 b m1] at D'
  unfold mx at A B D'
  revert A B D'
  (repeat' split) <;> intros <;> omega
end
/-! ### the law's own defs -/
def S_law_room : MC := fun st ds Q => ∃ (l : List Nat) (kvs : List (DK × D)) (far : Nat → Nat → Int) (a b c d : Nat), ds = [.dic kvs, .str [a], .str [b], .str [c], .str [d]] ∧ FarK l kvs far ∧ a ∈ l ∧ b ∈ l ∧ c ∈ l ∧ d ∈ l ∧ Q (.int (roomM far a b c d)) st
def S_law_strong : MC := fun st ds Q => ∃ (l : List Nat) (kvs : List (DK × D)) (far : Nat → Nat → Int) (p : List Nat), ds = [.str l, .dic kvs, .str p] ∧ FarK l kvs far ∧ FarOk l far ∧ Nm l 2 7 ∧ isPartingM p l = true ∧ Q (.int (strM l far p)) st
def S_law_clear : MC := fun st ds Q => ∃ (l : List Nat) (kvs : List (DK × D)) (far : Nat → Nat → Int), ds = [.str l, .dic kvs] ∧ FarK l kvs far ∧ FarOk l far ∧ Nm l 2 7 ∧ Q (.lst (rowsD (clearL l far))) st
def S_law_fours : MC := fun st ds Q => ∃ l : List Nat, ds = [.str l] ∧ l.length ≤ 7 ∧ ∀ ls : List (List Nat), ls.length ≤ 1000 → (∀ x ∈ ls, x.length = 4 ∧ ∀ c ∈ x, c ∈ l) → Q (.lst (ls.map D.str)) st
def NoHit (l p q r : List Nat) : Prop := ∀ x : List Nat, x.length = 4 → (∀ c ∈ x, c ∈ l) → ¬ [hitM p x, hitM q x, hitM r x].Perm [1, 2, 3]
def S_law_do_clash : MC := fun st ds Q => ∃ l p q r : List Nat, ds = [.str l, .lst [.str p, .str q, .str r]] ∧ l.length ≤ 7 ∧ p.length ≤ 1000 ∧ q.length ≤ 1000 ∧ r.length ≤ 1000 ∧ NoHit l p q r ∧ Q (.bl false) st
theorem noHit {l : List Nat} {far : Nat → Nat → Int} {p q r : List Nat} (F : FarOk l far) (hn : l.Nodup) (h2 : 2 ≤ l.length) (hp : isPartingM p l = true) (hq : isPartingM q l = true) (hr : isPartingM r l = true) (sp : 0 < strM l far p) (sq : 0 < strM l far q) (sr : 0 < strM l far r) : NoHit l p q r := by
  intro x hx hm hperm
  have hx' : ∀ k, k < 4 → x.getD k 0 ∈ l := fun k hk => by
    rw [List.getD_eq_getElem?_getD, List.getElem?_eq_getElem (by omega)]
    exact hm _ (List.getElem_mem _)
  have m1 : (1 : Int) ∈ [hitM p x, hitM q x, hitM r x] := hperm.symm.subset (by simp)
  have m2 : (2 : Int) ∈ [hitM p x, hitM q x, hitM r x] := hperm.symm.subset (by simp)
  have m3 : (3 : Int) ∈ [hitM p x, hitM q x, hitM r x] := hperm.symm.subset (by simp)
  simp only [List.mem_cons, List.not_mem_nil, or_false] at m1 m2 m3
  have go : ∀ {p q r : List Nat}, isPartingM p l = true → isPartingM q l = true → isPartingM r l = true → 0 < strM l far p → 0 < strM l far q → 0 < strM l far r → hitM p x = 1 → hitM q x = 2 → hitM r x = 3 → False :=
    fun hp hq hr sp sq sr h1 h2' h3 => no_three F hn h2 hx' hp hq hr sp sq sr h1 h2' h3
  rcases m1 with e1 | e1 | e1 <;> rcases m2 with e2 | e2 | e2 <;> rcases m3 with e3 | e3 | e3 <;> first
    | (exfalso; omega)
    | exact go hp hq hr sp sq sr e1.symm e2.symm e3.symm
    | exact go hp hr hq sp sr sq e1.symm e2.symm e3.symm
    | exact go hq hp hr sq sp sr e1.symm e2.symm e3.symm
    | exact go hq hr hp sq sr sp e1.symm e2.symm e3.symm
    | exact go hr hp hq sr sp sq e1.symm e2.symm e3.symm
    | exact go hr hq hp sr sq sp e1.symm e2.symm e3.symm
theorem flat_len {α β : Type} {f : α → List β} {m : Nat} : ∀ {xs : List α}, (∀ x ∈ xs, (f x).length ≤ m) → (xs.flatMap f).length ≤ xs.length * m
  | [], _ => Nat.zero_le _
  | x :: xs, h => by
    rw [List.flatMap_cons, List.length_append, List.length_cons, Nat.add_mul, Nat.one_mul]
    have h1 := h x List.mem_cons_self
    have h2 := flat_len (xs := xs) fun y hy => h y (List.mem_cons_of_mem _ hy)
    omega
theorem flat_snoc {α β : Type} {f : α → List β} {xs : List α} {i : Nat} {a : α} (h : xs[i]? = some a) : (xs.take (i + 1)).flatMap f = (xs.take i).flatMap f ++ f a := by
  rw [List.take_add_one, h, List.flatMap_append]; simp
end Md
set_option Elab.async false
set_option linter.all false
set_option maxRecDepth 100000
set_option maxHeartbeats 4000000
namespace K20d
open PySem PySem.Spec PyProof.Rows L2 Nf DL Pd Nd Ld Cd Hd
section
variable {P : Program} {w : World} {K : PySem.W.Frag} {mg : Str → Option Value} {base : Heap} {C : Addr} {f : Addr} {fd : FuncData}
/-! ### fours -/
theorem fourT_len {l : List Nat} : ∀ x ∈ fourT l, x.length ≤ l.length := fun x hx => by
  have := four_len (n := 0) l [[]] (by simp) x hx
  omega
theorem ok_law_fours (F : Fun K "_law_fours" "_law_fours" s_law_fours f fd) (T : Txt K mg C)  : FnOk P w K mg base CX0 1 f fd ["_law_names_here"] (spD K 1 S_law_fours) := by
  refine fnF F sc_law_fours (fun cdv A outer s H E hr => (dss_cons (ds_set (i := 1) sc_law_fours.nd rfl (Or.inl rfl) (de_lst (da_cons de_str da_nil)))
  (dss_cons (ds_for PassesOwn.never rfl (di_seq (dv 0)) (dg_nm (i := 2) sc_law_fours.nd rfl (Or.inr rfl) (Or.inl rfl)) (dss_one (ds_set (i := 1) sc_law_fours.nd rfl (Or.inl rfl) (de_bin (do_add (K := K)) (dv 1) (de_lc (own := [("_law_lot", 3)]) rfl sc_law_fours.nd (di_seq (dv 1)) (blkOk_by (own := [("_law_lot", 3)]) (N := N_law_fours) (sc := defScope s_law_fours) (by decide +kernel)) (tof_nm (i := 3)) (fun _ _ _ _ _ => (pg_name (i := 3) sc_law_fours.nd rfl (Or.inl rfl) (Or.inr rfl))) (fun _ _ _ _ _ => (dts_one (dt_cmp do_lt (de_callB (dc_len (K := K)) T.len (da_cons (dv 3) da_nil)) de_int (nomark _)))) (fun _ _ _ _ _ => (de_bin (do_add (K := K)) (dv 3) (dv 2))))))))
  (dss_one (ds_ret (de_lc (own := [("_law_lot", 3)]) rfl sc_law_fours.nd (di_seq (dv 1)) (blkOk_by (own := [("_law_lot", 3)]) (N := N_law_fours) (sc := defScope s_law_fours) (by decide +kernel)) (tof_nm (i := 3)) (fun _ _ _ _ _ => (pg_name (i := 3) sc_law_fours.nd rfl (Or.inl rfl) (Or.inr rfl))) (fun _ _ _ _ _ => (dts_one (dt_cmp (do_eq (K := K) hr.units) (de_callB (dc_len (K := K)) T.len (da_cons (dv 3) da_nil)) de_int (nomark _)))) (fun _ _ _ _ _ => (dv 3)))))))) ?_
  rintro st0 ds Qd _ ⟨l, rfl, hl, k⟩
  simp only [sIf, sSeq, sRet, sRetN, sAsg, sSet, sDrop, sNext, sNever, sPar, sFor, sFldD, mNot, mTv, mAnd, mOr, mAndV, mOrV, mNotV, mBin, mUn, mC, mCall, mCons, mNil, mTup, mLst, mLstC, mFn, mFnK, mCallL, mLenO, mLz, mIdx, DL.iZip, DL.iEnS, cSortT, mDic0, mDit0, gSubT, iCbR, cMinT, cMaxT, mIf, mChain, mFld, mIsC, mJoin, mSl, pNo, pSo, mLc, mLcC, mLc2, mLcK, mDc, mDcC, mIsi, mBack, mApp, mPop, mMake, mMeth, mHeard, iSeq, iRng1', iRng2', iEn, iCb, gNm, gTup1, gCons', gNil', gSub', mNm, mYes, startD, wipeD, isB, isI, isS, List.map_cons, List.map_nil, List.length_cons, List.length_nil, List.replicate_succ, List.replicate_zero, List.cons_append, List.nil_append, List.getElem?_cons_zero, List.getElem?_cons_succ, List.set_cons_zero, List.set_cons_succ, Nat.reduceAdd, Nat.reduceSub, if_true, true_and, ix20, ix21, oAdd_ii, oAdd_ss, oAdd_tt, oAdd_ll, oSub_ii, oMul_ii, oDiv_ii, oMod_ii, oPow_ii, oNeg_i, oLt_ii, oLe_ii, oGt_ii, oGe_ii, oEq_ii, oNe_ii, oEq_ss, oNe_ss, cInt_i, cInt_b, cAbs_i, cLen_s, cLen_l, cLen_f, cLen_t, cMin_2, cMax_2, cMax_3, cTuple_l, cTuple_t, cDivmod_ii, cListC_s, items_l, items_t, items_s, Nat.reduceLeDiff]
  refine forD_rel0 (fun i ρ st => st = st0 ∧ ∃ y2, ρ = [some (.str l), some (.lst ((fourT (l.take i)).map D.str)), y2, none]) ⟨rfl, none, rfl⟩ ?_ ?_
  · rintro i c ρ st hi ⟨rfl, y2, rfl⟩
    have h1 := four_take hl i
    have h2 : ∀ x ∈ fourT (l.take i), x.length ≤ 7 := fun x hx => by
      have := fourT_len x hx
      rw [List.length_take] at this
      omega
    refine ⟨trivial, fun N hN => ?_⟩
    simp only [sIf, sSeq, sRet, sRetN, sAsg, sSet, sDrop, sNext, sNever, sPar, sFor, sFldD, mNot, mTv, mAnd, mOr, mAndV, mOrV, mNotV, mBin, mUn, mC, mCall, mCons, mNil, mTup, mLst, mLstC, mFn, mFnK, mCallL, mLenO, mLz, mIdx, DL.iZip, DL.iEnS, cSortT, mDic0, mDit0, gSubT, iCbR, cMinT, cMaxT, mIf, mChain, mFld, mIsC, mJoin, mSl, pNo, pSo, mLc, mLcC, mLc2, mLcK, mDc, mDcC, mIsi, mBack, mApp, mPop, mMake, mMeth, mHeard, iSeq, iRng1', iRng2', iEn, iCb, gNm, gTup1, gCons', gNil', gSub', mNm, mYes, startD, wipeD, isB, isI, isS, List.map_cons, List.map_nil, List.length_cons, List.length_nil, List.replicate_succ, List.replicate_zero, List.cons_append, List.nil_append, List.getElem?_cons_zero, List.getElem?_cons_succ, List.set_cons_zero, List.set_cons_succ, Nat.reduceAdd, Nat.reduceSub, if_true, true_and, ix20, ix21, oAdd_ii, oAdd_ss, oAdd_tt, oAdd_ll, oSub_ii, oMul_ii, oDiv_ii, oMod_ii, oPow_ii, oNeg_i, oLt_ii, oLe_ii, oGt_ii, oGe_ii, oEq_ii, oNe_ii, oEq_ss, oNe_ss, cInt_i, cInt_b, cAbs_i, cLen_s, cLen_l, cLen_f, cLen_t, cMin_2, cMax_2, cMax_3, cTuple_l, cTuple_t, cDivmod_ii, cListC_s, items_l, items_t, items_s, Nat.reduceLeDiff]
    refine ⟨by rw [List.length_map]; omega, ?_⟩
    refine lcD_pf (p := fun x => decide (x.length < 4)) (f := fun x => D.str (x ++ [c])) (fun x hx K1 K0 q => ?_) trivial ?_
    · have hx7 := h2 x hx
      simp only [sIf, sSeq, sRet, sRetN, sAsg, sSet, sDrop, sNext, sNever, sPar, sFor, sFldD, mNot, mTv, mAnd, mOr, mAndV, mOrV, mNotV, mBin, mUn, mC, mCall, mCons, mNil, mTup, mLst, mLstC, mFn, mFnK, mCallL, mLenO, mLz, mIdx, DL.iZip, DL.iEnS, cSortT, mDic0, mDit0, gSubT, iCbR, cMinT, cMaxT, mIf, mChain, mFld, mIsC, mJoin, mSl, pNo, pSo, mLc, mLcC, mLc2, mLcK, mDc, mDcC, mIsi, mBack, mApp, mPop, mMake, mMeth, mHeard, iSeq, iRng1', iRng2', iEn, iCb, gNm, gTup1, gCons', gNil', gSub', mNm, mYes, startD, wipeD, isB, isI, isS, List.map_cons, List.map_nil, List.length_cons, List.length_nil, List.replicate_succ, List.replicate_zero, List.cons_append, List.nil_append, List.getElem?_cons_zero, List.getElem?_cons_succ, List.set_cons_zero, List.set_cons_succ, Nat.reduceAdd, Nat.reduceSub, if_true, true_and, ix20, ix21, oAdd_ii, oAdd_ss, oAdd_tt, oAdd_ll, oSub_ii, oMul_ii, oDiv_ii, oMod_ii, oPow_ii, oNeg_i, oLt_ii, oLe_ii, oGt_ii, oGe_ii, oEq_ii, oNe_ii, oEq_ss, oNe_ss, cInt_i, cInt_b, cAbs_i, cLen_s, cLen_l, cLen_f, cLen_t, cMin_2, cMax_2, cMax_3, cTuple_l, cTuple_t, cDivmod_ii, cListC_s, items_l, items_t, items_s, Nat.reduceLeDiff]
      have e : decide ((x.length : Int) < 4) = decide (x.length < 4) := by rw [decide_eq_decide]; omega
      refine ⟨by omega, ?_⟩
      rw [e]
      split at q
      · rw [if_pos (by assumption)]
        exact ⟨by omega, q⟩
      · rw [if_neg (by assumption)]
        exact q
    · refine ⟨by simp only [List.length_map]; have := List.length_filter_le (fun x : List Nat => decide (x.length < 4)) (fourT (l.take i)); omega, ?_⟩
      refine hN _ _ ⟨rfl, some (.str [c]), ?_⟩
      rw [four_snoc hi]
      unfold fourStep
      rw [List.map_append, List.map_map]
      rfl
  · rintro ρ st ⟨rfl, y2, rfl⟩
    refine ⟨trivial, ?_⟩
    rw [List.take_length]
    have h1 := fourT_small hl
    simp only [sIf, sSeq, sRet, sRetN, sAsg, sSet, sDrop, sNext, sNever, sPar, sFor, sFldD, mNot, mTv, mAnd, mOr, mAndV, mOrV, mNotV, mBin, mUn, mC, mCall, mCons, mNil, mTup, mLst, mLstC, mFn, mFnK, mCallL, mLenO, mLz, mIdx, DL.iZip, DL.iEnS, cSortT, mDic0, mDit0, gSubT, iCbR, cMinT, cMaxT, mIf, mChain, mFld, mIsC, mJoin, mSl, pNo, pSo, mLc, mLcC, mLc2, mLcK, mDc, mDcC, mIsi, mBack, mApp, mPop, mMake, mMeth, mHeard, iSeq, iRng1', iRng2', iEn, iCb, gNm, gTup1, gCons', gNil', gSub', mNm, mYes, startD, wipeD, isB, isI, isS, List.map_cons, List.map_nil, List.length_cons, List.length_nil, List.replicate_succ, List.replicate_zero, List.cons_append, List.nil_append, List.getElem?_cons_zero, List.getElem?_cons_succ, List.set_cons_zero, List.set_cons_succ, Nat.reduceAdd, Nat.reduceSub, if_true, true_and, ix20, ix21, oAdd_ii, oAdd_ss, oAdd_tt, oAdd_ll, oSub_ii, oMul_ii, oDiv_ii, oMod_ii, oPow_ii, oNeg_i, oLt_ii, oLe_ii, oGt_ii, oGe_ii, oEq_ii, oNe_ii, oEq_ss, oNe_ss, cInt_i, cInt_b, cAbs_i, cLen_s, cLen_l, cLen_f, cLen_t, cMin_2, cMax_2, cMax_3, cTuple_l, cTuple_t, cDivmod_ii, cListC_s, items_l, items_t, items_s, Nat.reduceLeDiff]
    refine ⟨by rw [List.length_map]; omega, ?_⟩
    refine lcD_pf (p := fun x => decide (x.length = 4)) (f := D.str) (fun x hx K1 K0 q => ?_) trivial ?_
    · simp only [sIf, sSeq, sRet, sRetN, sAsg, sSet, sDrop, sNext, sNever, sPar, sFor, sFldD, mNot, mTv, mAnd, mOr, mAndV, mOrV, mNotV, mBin, mUn, mC, mCall, mCons, mNil, mTup, mLst, mLstC, mFn, mFnK, mCallL, mLenO, mLz, mIdx, DL.iZip, DL.iEnS, cSortT, mDic0, mDit0, gSubT, iCbR, cMinT, cMaxT, mIf, mChain, mFld, mIsC, mJoin, mSl, pNo, pSo, mLc, mLcC, mLc2, mLcK, mDc, mDcC, mIsi, mBack, mApp, mPop, mMake, mMeth, mHeard, iSeq, iRng1', iRng2', iEn, iCb, gNm, gTup1, gCons', gNil', gSub', mNm, mYes, startD, wipeD, isB, isI, isS, List.map_cons, List.map_nil, List.length_cons, List.length_nil, List.replicate_succ, List.replicate_zero, List.cons_append, List.nil_append, List.getElem?_cons_zero, List.getElem?_cons_succ, List.set_cons_zero, List.set_cons_succ, Nat.reduceAdd, Nat.reduceSub, if_true, true_and, ix20, ix21, oAdd_ii, oAdd_ss, oAdd_tt, oAdd_ll, oSub_ii, oMul_ii, oDiv_ii, oMod_ii, oPow_ii, oNeg_i, oLt_ii, oLe_ii, oGt_ii, oGe_ii, oEq_ii, oNe_ii, oEq_ss, oNe_ss, cInt_i, cInt_b, cAbs_i, cLen_s, cLen_l, cLen_f, cLen_t, cMin_2, cMax_2, cMax_3, cTuple_l, cTuple_t, cDivmod_ii, cListC_s, items_l, items_t, items_s, Nat.reduceLeDiff]
      refine ⟨by have := fourT_len x hx; omega, ?_⟩
      have e : decide ((x.length : Int) = 4) = decide (x.length = 4) := by rw [decide_eq_decide]; omega
      rw [e]
      exact q
    · exact exit_pl (pl_strs _) k
/-! ### crossing -/
def bb (x : Bool × Bool) : D := .lst [.bl x.1, .bl x.2]
theorem any_bb (x : Bool × Bool) : ∀ bs : List (Bool × Bool), ((bs.map bb).any fun z => PyData.eqv (py z) (py (bb x))) = decide (x ∈ bs)
  | [] => by simp
  | y :: bs => by
    have ih := any_bb x bs
    rw [List.map_cons, List.any_cons, ih]
    have e : PyData.eqv (py (bb y)) (py (bb x)) = decide (y = x) := by
      obtain ⟨a, b⟩ := y
      obtain ⟨c, d⟩ := x
      cases a <;> cases b <;> cases c <;> cases d <;> rfl
    rw [e]
    by_cases h : y = x
    · subst h; simp
    · have : ¬ x = y := fun z => h z.symm
      simp [h, this]
theorem sx_bb (x : Bool × Bool) : SxD 1 2 (bb x) := by
  have := SxD.lst (ds := [D.bl x.1, D.bl x.2]) (dep := 0) (wt := 0) fun d hd => by
    simp only [List.mem_cons, List.not_mem_nil, or_false] at hd
    rcases hd with rfl | rfl <;> exact SxD.bl _
  exact this
theorem in_bb {st : Store} {x : Bool × Bool} {bs : List (Bool × Bool)} {Q : QD} (q : Q (.bl (decide (x ∈ bs))) st) : oInDat false st (bb x) (.lst (bs.map bb)) Q := by
  have s1 := sx_bb x
  have s2 : SxD 2 _ (.lst (bs.map bb)) := .lst (wt := 2) fun d hd => by
    obtain ⟨y, _, rfl⟩ := List.mem_map.mp hd
    exact sx_bb y
  have d2 : DatL (bs.map bb) = true := by have := s2.1; rwa [Dat] at this
  refine ⟨⟨⟨s1.1, d2⟩, s1.shaped (by decide), s2.shaped (by decide)⟩, ?_⟩
  rw [any_bb]
  have e : (false != decide (x ∈ bs)) = decide (x ∈ bs) := by cases decide (x ∈ bs) <;> rfl
  rw [e]
  exact q
theorem kind_mem (l p q : List Nat) (a b : Bool) : decide ((a, b) ∈ l.map fun c => (decide (c ∈ p), decide (c ∈ q))) = kindM l p q a b := by
  unfold kindM
  rw [Bool.eq_iff_iff, decide_eq_true_iff, List.mem_map, List.any_eq_true]
  constructor
  · rintro ⟨c, hc, e⟩
    injection e with e1 e2
    exact ⟨c, hc, by simp [e1, e2]⟩
  · rintro ⟨c, hc, e⟩
    rw [Bool.and_eq_true, beq_iff_eq, beq_iff_eq] at e
    exact ⟨c, hc, by rw [e.1, e.2]⟩
theorem ok_law_do_cross (F : Fun K "_law_do_cross" "_law_do_cross" s_law_do_cross f fd) (T : Txt K mg C)  : FnOk P w K mg base CX0 1 f fd ["_law_names_here", "_law_one", "_law_two"] (spD K 3 S_law_do_cross) := by
  refine fnF F sc_law_do_cross (fun cdv A outer s H E hr => (dss_cons (ds_set (i := 3) sc_law_do_cross.nd rfl (Or.inr rfl) (de_lc (own := [("_law_name", 4)]) rfl sc_law_do_cross.nd (di_seq (dv 0)) (blkOk_by (own := [("_law_name", 4)]) (N := N_law_do_cross) (sc := defScope s_law_do_cross) (by decide +kernel)) (tof_nm (i := 4)) (fun _ _ _ _ _ => (pg_name (i := 4) sc_law_do_cross.nd rfl (Or.inl rfl) (Or.inr rfl))) (fun _ _ _ _ _ => dts_nil) (fun _ _ _ _ _ => (de_lst (da_cons (de_cmp (do_in (K := K) (hu1 hr)) (dv 4) (dv 1) (by with_unfolding_all rfl)) (da_cons (de_cmp (do_in (K := K) (hu1 hr)) (dv 4) (dv 2) (by with_unfolding_all rfl)) da_nil))))))
  (dss_one (ds_ret (de_callB (dc_all (K := K) rfl) T.all (da_cons (de_lc (own := [("_law_kind", 5)]) rfl sc_law_do_cross.nd (di_seq (de_lst (da_cons (de_lst (da_cons de_bl (da_cons de_bl da_nil))) (da_cons (de_lst (da_cons de_bl (da_cons de_bl da_nil))) (da_cons (de_lst (da_cons de_bl (da_cons de_bl da_nil))) (da_cons (de_lst (da_cons de_bl (da_cons de_bl da_nil))) da_nil)))))) (blkOk_by (own := [("_law_kind", 5)]) (N := N_law_do_cross) (sc := defScope s_law_do_cross) (by decide +kernel)) (tof_nm (i := 5)) (fun _ _ _ _ _ => (pg_name (i := 5) sc_law_do_cross.nd rfl (Or.inl rfl) (Or.inr rfl))) (fun _ _ _ _ _ => dts_nil) (fun _ _ _ _ _ => (de_cmp (do_inDat (K := K) (hu65 hr)) (dv 5) (dv 3) (by with_unfolding_all rfl)))) da_nil)))))) ?_
  rintro st0 ds Qd _ ⟨l, p, q, rfl, hl, hp, hq, hpp, hqq, k⟩
  refine seq_rel (fun ρ st => st = st0 ∧ ρ = [some (.str l), some (.str p), some (.str q), some (.lst ((l.map fun c => (decide (c ∈ p), decide (c ∈ q))).map bb)), none, none]) ?_ ?_
  rotate_left
  · intro N hN
    simp only [sIf, sSeq, sRet, sRetN, sAsg, sSet, sDrop, sNext, sNever, sPar, sFor, sFldD, mNot, mTv, mAnd, mOr, mAndV, mOrV, mNotV, mBin, mUn, mC, mCall, mCons, mNil, mTup, mLst, mLstC, mFn, mFnK, mCallL, mLenO, mLz, mIdx, DL.iZip, DL.iEnS, cSortT, mDic0, mDit0, gSubT, iCbR, cMinT, cMaxT, mIf, mChain, mFld, mIsC, mJoin, mSl, pNo, pSo, mLc, mLcC, mLc2, mLcK, mDc, mDcC, mIsi, mBack, mApp, mPop, mMake, mMeth, mHeard, iSeq, iRng1', iRng2', iEn, iCb, gNm, gTup1, gCons', gNil', gSub', mNm, mYes, startD, wipeD, isB, isI, isS, List.map_cons, List.map_nil, List.length_cons, List.length_nil, List.replicate_succ, List.replicate_zero, List.cons_append, List.nil_append, List.getElem?_cons_zero, List.getElem?_cons_succ, List.set_cons_zero, List.set_cons_succ, Nat.reduceAdd, Nat.reduceSub, if_true, true_and, ix20, ix21, oAdd_ii, oAdd_ss, oAdd_tt, oAdd_ll, oSub_ii, oMul_ii, oDiv_ii, oMod_ii, oPow_ii, oNeg_i, oLt_ii, oLe_ii, oGt_ii, oGe_ii, oEq_ii, oNe_ii, oEq_ss, oNe_ss, cInt_i, cInt_b, cAbs_i, cLen_s, cLen_l, cLen_f, cLen_t, cMin_2, cMax_2, cMax_3, cTuple_l, cTuple_t, cDivmod_ii, cListC_s, items_l, items_t, items_s, Nat.reduceLeDiff]
    refine ⟨by rw [List.length_map]; omega, ?_⟩
    refine lcD_m (f := fun c => bb (decide (c ∈ p), decide (c ∈ q))) (fun c hc K1 q' => ?_) trivial ?_
    · simp only [sIf, sSeq, sRet, sRetN, sAsg, sSet, sDrop, sNext, sNever, sPar, sFor, sFldD, mNot, mTv, mAnd, mOr, mAndV, mOrV, mNotV, mBin, mUn, mC, mCall, mCons, mNil, mTup, mLst, mLstC, mFn, mFnK, mCallL, mLenO, mLz, mIdx, DL.iZip, DL.iEnS, cSortT, mDic0, mDit0, gSubT, iCbR, cMinT, cMaxT, mIf, mChain, mFld, mIsC, mJoin, mSl, pNo, pSo, mLc, mLcC, mLc2, mLcK, mDc, mDcC, mIsi, mBack, mApp, mPop, mMake, mMeth, mHeard, iSeq, iRng1', iRng2', iEn, iCb, gNm, gTup1, gCons', gNil', gSub', mNm, mYes, startD, wipeD, isB, isI, isS, List.map_cons, List.map_nil, List.length_cons, List.length_nil, List.replicate_succ, List.replicate_zero, List.cons_append, List.nil_append, List.getElem?_cons_zero, List.getElem?_cons_succ, List.set_cons_zero, List.set_cons_succ, Nat.reduceAdd, Nat.reduceSub, if_true, true_and, ix20, ix21, oAdd_ii, oAdd_ss, oAdd_tt, oAdd_ll, oSub_ii, oMul_ii, oDiv_ii, oMod_ii, oPow_ii, oNeg_i, oLt_ii, oLe_ii, oGt_ii, oGe_ii, oEq_ii, oNe_ii, oEq_ss, oNe_ss, cInt_i, cInt_b, cAbs_i, cLen_s, cLen_l, cLen_f, cLen_t, cMin_2, cMax_2, cMax_3, cTuple_l, cTuple_t, cDivmod_ii, cListC_s, items_l, items_t, items_s, Nat.reduceLeDiff]
      rw [oIn_s, oIn_s]
      have e : ∀ x : List Nat, (false != decide (c ∈ x)) = decide (c ∈ x) := fun x => by cases decide (c ∈ x) <;> rfl
      rw [e, e]
      exact q'
    · rw [List.map_map] at hN
      exact hN _ _ ⟨rfl, rfl⟩
  rintro ρ st ⟨rfl, rfl⟩
  generalize hB : (l.map fun c => (decide (c ∈ p), decide (c ∈ q))) = bs
  obtain ⟨ks, hks⟩ : ∃ ks : List (Bool × Bool), ks = [(true, true), (true, false), (false, true), (false, false)] := ⟨_, rfl⟩
  have hM : ∀ Q : QD, Q (.lst (ks.map bb)) st → mLst (mCons (mLst (mCons (mC (D.bl true)) (mCons (mC (D.bl true)) mNil))) (mCons (mLst (mCons (mC (D.bl true)) (mCons (mC (D.bl false)) mNil))) (mCons (mLst (mCons (mC (D.bl false)) (mCons (mC (D.bl true)) mNil))) (mCons (mLst (mCons (mC (D.bl false)) (mCons (mC (D.bl false)) mNil))) mNil)))) [some (D.str l), some (D.str p), some (D.str q), some (D.lst (bs.map bb)), none, none] st Q := by
    intro Q q
    rw [hks] at q
    simp only [sIf, sSeq, sRet, sRetN, sAsg, sSet, sDrop, sNext, sNever, sPar, sFor, sFldD, mNot, mTv, mAnd, mOr, mAndV, mOrV, mNotV, mBin, mUn, mC, mCall, mCons, mNil, mTup, mLst, mLstC, mFn, mFnK, mCallL, mLenO, mLz, mIdx, DL.iZip, DL.iEnS, cSortT, mDic0, mDit0, gSubT, iCbR, cMinT, cMaxT, mIf, mChain, mFld, mIsC, mJoin, mSl, pNo, pSo, mLc, mLcC, mLc2, mLcK, mDc, mDcC, mIsi, mBack, mApp, mPop, mMake, mMeth, mHeard, iSeq, iRng1', iRng2', iEn, iCb, gNm, gTup1, gCons', gNil', gSub', mNm, mYes, startD, wipeD, isB, isI, isS, List.map_cons, List.map_nil, List.length_cons, List.length_nil, List.replicate_succ, List.replicate_zero, List.cons_append, List.nil_append, List.getElem?_cons_zero, List.getElem?_cons_succ, List.set_cons_zero, List.set_cons_succ, Nat.reduceAdd, Nat.reduceSub, if_true, true_and, ix20, ix21, oAdd_ii, oAdd_ss, oAdd_tt, oAdd_ll, oSub_ii, oMul_ii, oDiv_ii, oMod_ii, oPow_ii, oNeg_i, oLt_ii, oLe_ii, oGt_ii, oGe_ii, oEq_ii, oNe_ii, oEq_ss, oNe_ss, cInt_i, cInt_b, cAbs_i, cLen_s, cLen_l, cLen_f, cLen_t, cMin_2, cMax_2, cMax_3, cTuple_l, cTuple_t, cDivmod_ii, cListC_s, items_l, items_t, items_s, Nat.reduceLeDiff]
    exact q
  have hk4 : ks.length ≤ 4 := by rw [hks]; decide
  have hall : ks.all (fun x => decide (x ∈ bs)) = crossM l p q := by
    rw [cross_kinds (fun c hc => parting_sub hpp c hc) (fun c hc => parting_sub hqq c hc), hks, ← hB]
    simp only [List.all_cons, List.all_nil, kind_mem, id]
  clear hks
  have fin : itemsD st (.lst (ks.map bb)) (fun xs G => xs.length ≤ 1000000 ∧ lcD (gNm 5) mYes (mBin (oInDat false) (mNm 5) (mNm 3)) G [some (D.str l), some (D.str p), some (D.str q), some (D.lst (bs.map bb)), none, none] xs st fun ys st2 => cAll st2 [.lst ys] (exitF st Qd)) := by
    refine ⟨by rw [List.length_map]; omega, ?_⟩
    refine lcD_m (f := fun x => D.bl (decide (x ∈ bs))) (fun x hx K1 q => in_bb q) trivial ?_
    have e3 : ks.map (fun x => D.bl (decide (x ∈ bs))) = (ks.map fun x => decide (x ∈ bs)).map D.bl := by rw [List.map_map]; rfl
    rw [e3]
    refine ⟨_, rfl, ?_⟩
    have e5 : (ks.map fun x => decide (x ∈ bs)).all id = crossM l p q := by rw [← hall, List.all_map]; rfl
    rw [e5]
    exact exit_pl rfl k
  exact hM (fun d st1 => itemsD st1 d fun xs G => xs.length ≤ 1000000 ∧ lcD (gNm 5) mYes (mBin (oInDat false) (mNm 5) (mNm 3)) G [some (D.str l), some (D.str p), some (D.str q), some (D.lst (bs.map bb)), none, none] xs st1 fun ys st2 => cAll st2 [.lst ys] (exitF st Qd)) fin
theorem hit_hit (p x : List Nat) : Md.hitM p x = (hitM p x : Int) := by
  unfold Md.hitM hitM
  have e : Md.matesM p x = matesM p x := by
    unfold Md.matesM matesM
    refine List.filter_congr fun k _ => ?_
    cases decide (x.getD k 0 ∈ p) <;> cases decide (x.getD 0 0 ∈ p) <;> rfl
  rw [e]
  match matesM p x with
  | [] => rfl
  | [k] => rfl
  | k :: k' :: ks => rfl
theorem hit_small (z y : List Nat) : (Md.hitM z y).natAbs < 10 ^ 11 := by
  unfold Md.hitM
  split
  · rename_i k e
    have h : k ∈ Md.matesM z y := by rw [e]; exact List.mem_singleton.mpr rfl
    have := (List.mem_filter.mp h).1
    simp only [List.mem_cons, List.not_mem_nil, or_false] at this
    rcases this with rfl | rfl | rfl <;> decide
  · decide
theorem ok_law_do_clash (F : Fun K "_law_do_clash" "_law_do_clash" s_law_do_clash f fd) (T : Txt K mg C) (C_law_fours : CanD P w K mg base 1 "_law_fours" s_law_fours ["_law_names_here"] S_law_fours) : FnOk P w K mg base CX0 2 f fd ["_law_names_here", "_law_lots_here"] (spD K 2 S_law_do_clash) := by
  refine fnF F sc_law_do_clash (fun cdv A outer s H E hr => (dss_cons (ds_for PassesOwn.never rfl (di_seq (de_fn C_law_fours (hr.mono (by decide)) (da_cons (dv 0) da_nil))) (dg_nm (i := 2) sc_law_do_clash.nd rfl (Or.inl rfl) (Or.inr rfl)) (dss_cons (ds_set (i := 3) sc_law_do_clash.nd rfl (Or.inl rfl) (de_lstC da_nil))
  (dss_cons (ds_for PassesOwn.never rfl (di_seq (dv 1)) (dg_nm (i := 4) sc_law_do_clash.nd rfl (Or.inr rfl) (Or.inl rfl)) (dss_cons (ds_set (i := 5) sc_law_do_clash.nd rfl (Or.inr rfl) (de_lc (own := [("_law_name", 6)]) rfl sc_law_do_clash.nd (di_seq (dv 2)) (blkOk_by (own := [("_law_name", 6)]) (N := N_law_do_clash) (sc := defScope s_law_do_clash) (by decide +kernel)) (tof_nm (i := 6)) (fun _ _ _ _ _ => (pg_name (i := 6) sc_law_do_clash.nd rfl (Or.inl rfl) (Or.inr rfl))) (fun _ _ _ _ _ => dts_nil) (fun _ _ _ _ _ => (de_cmp (do_in (K := K) (hu1 hr)) (dv 6) (dv 4) (by with_unfolding_all rfl)))))
  (dss_cons (ds_lc (own := [("_law_k", 8)]) (i := 7) rfl sc_law_do_clash.nd rfl rfl (sw_true rfl rfl rfl (by decide +kernel)) (di_range2 T.range de_int de_int) (blkOk_by (own := [("_law_k", 8)]) (N := N_law_do_clash) (sc := defScope s_law_do_clash) (by decide +kernel)) (tof_nm (i := 8)) (fun _ _ _ _ _ => (pg_name (i := 8) sc_law_do_clash.nd rfl (Or.inl rfl) (Or.inr rfl))) (fun _ _ _ _ _ => (dts_one (dt_cmp (do_eq (K := K) hr.units) (de_ix (hu1 hr) (dv 5) (dv 8)) (de_ix (hu1 hr) (dv 5) de_int) (nomark _)))) (fun _ _ _ _ _ => (dv 8)))
  (dss_one (ds_expr (de_app (dv 3) (de_ifExp (dt_cmp (do_eq (K := K) hr.units) (de_callB (dc_len (K := K)) T.len (da_cons (dv 7) da_nil)) de_int (nomark _)) (de_ix (hu1 hr) (dv 7) de_int) de_int)))))))
  (dss_one (ds_if (dt_cmp (do_eq (K := K) hr.units) (de_callB (dc_sorted (K := K)) T.sorted (da_cons (dv 3) da_nil)) (de_lst (da_cons de_int (da_cons de_int (da_cons de_int da_nil)))) (nomark _)) (dss_one (ds_ret de_bl)) dss_nil)))))
  (dss_one (ds_ret de_bl)))) ?_
  rintro st0 ds Qd _ ⟨l, p, q, r, rfl, hl, hlot, hp, hq, hr, k⟩
  simp only [sIf, sSeq, sRet, sRetN, sAsg, sSet, sDrop, sNext, sNever, sPar, sFor, sFldD, mNot, mTv, mAnd, mOr, mAndV, mOrV, mNotV, mBin, mUn, mC, mCall, mCons, mNil, mTup, mLst, mLstC, mFn, mFnK, mCallL, mLenO, mLz, mIdx, DL.iZip, DL.iEnS, cSortT, mDic0, mDit0, gSubT, iCbR, cMinT, cMaxT, mIf, mChain, mFld, mIsC, mJoin, mSl, pNo, pSo, mLc, mLcC, mLc2, mLcK, mDc, mDcC, mIsi, mBack, mApp, mPop, mMake, mMeth, mHeard, iSeq, iRng1', iRng2', iEn, iCb, gNm, gTup1, gCons', gNil', gSub', mNm, mYes, startD, wipeD, isB, isI, isS, List.map_cons, List.map_nil, List.length_cons, List.length_nil, List.replicate_succ, List.replicate_zero, List.cons_append, List.nil_append, List.getElem?_cons_zero, List.getElem?_cons_succ, List.set_cons_zero, List.set_cons_succ, Nat.reduceAdd, Nat.reduceSub, if_true, true_and, ix20, ix21, oAdd_ii, oAdd_ss, oAdd_tt, oAdd_ll, oSub_ii, oMul_ii, oDiv_ii, oMod_ii, oPow_ii, oNeg_i, oLt_ii, oLe_ii, oGt_ii, oGe_ii, oEq_ii, oNe_ii, oEq_ss, oNe_ss, cInt_i, cInt_b, cAbs_i, cLen_s, cLen_l, cLen_f, cLen_t, cMin_2, cMax_2, cMax_3, cTuple_l, cTuple_t, cDivmod_ii, cListC_s, items_l, items_t, items_s, Nat.reduceLeDiff]
  refine ⟨l, rfl, hl, ?_⟩
  simp only [sIf, sSeq, sRet, sRetN, sAsg, sSet, sDrop, sNext, sNever, sPar, sFor, sFldD, mNot, mTv, mAnd, mOr, mAndV, mOrV, mNotV, mBin, mUn, mC, mCall, mCons, mNil, mTup, mLst, mLstC, mFn, mFnK, mCallL, mLenO, mLz, mIdx, DL.iZip, DL.iEnS, cSortT, mDic0, mDit0, gSubT, iCbR, cMinT, cMaxT, mIf, mChain, mFld, mIsC, mJoin, mSl, pNo, pSo, mLc, mLcC, mLc2, mLcK, mDc, mDcC, mIsi, mBack, mApp, mPop, mMake, mMeth, mHeard, iSeq, iRng1', iRng2', iEn, iCb, gNm, gTup1, gCons', gNil', gSub', mNm, mYes, startD, wipeD, isB, isI, isS, List.map_cons, List.map_nil, List.length_cons, List.length_nil, List.replicate_succ, List.replicate_zero, List.cons_append, List.nil_append, List.getElem?_cons_zero, List.getElem?_cons_succ, List.set_cons_zero, List.set_cons_succ, Nat.reduceAdd, Nat.reduceSub, if_true, true_and, ix20, ix21, oAdd_ii, oAdd_ss, oAdd_tt, oAdd_ll, oSub_ii, oMul_ii, oDiv_ii, oMod_ii, oPow_ii, oNeg_i, oLt_ii, oLe_ii, oGt_ii, oGe_ii, oEq_ii, oNe_ii, oEq_ss, oNe_ss, cInt_i, cInt_b, cAbs_i, cLen_s, cLen_l, cLen_f, cLen_t, cMin_2, cMax_2, cMax_3, cTuple_l, cTuple_t, cDivmod_ii, cListC_s, items_l, items_t, items_s, Nat.reduceLeDiff]
  refine forD_rel0 (fun i ρ st => (∃ ex, st = st0 ++ ex) ∧ (∀ x ∈ (fourL l).take i, clashB [p, q, r] x = false) ∧ ∃ y2 y3 y4 y5 y6 y7 y8, ρ = [some (.str l), some (.lst [.str p, .str q, .str r]), y2, y3, y4, y5, y6, y7, y8]) ⟨⟨[], by simp⟩, (fun x hx => by simp at hx), none, none, none, none, none, none, none, rfl⟩ ?_ ?_
  · rintro i x ρ st hi ⟨⟨ex, rfl⟩, hno, y2, y3, y4, y5, y6, y7, y8, rfl⟩
    have hmem := List.mem_of_getElem? hi
    have hx4 : x.length = 4 := of_decide_eq_true (List.mem_filter.mp hmem).2
    have hrise : x.Pairwise (· < ·) := comb_rise 4 l (lot_rise hlot) x ((four_comb hl).mem_iff.mp hmem)
    refine ⟨trivial, fun N hN' => ?_⟩
    simp only [sIf, sSeq, sRet, sRetN, sAsg, sSet, sDrop, sNext, sNever, sPar, sFor, sFldD, mNot, mTv, mAnd, mOr, mAndV, mOrV, mNotV, mBin, mUn, mC, mCall, mCons, mNil, mTup, mLst, mLstC, mFn, mFnK, mCallL, mLenO, mLz, mIdx, DL.iZip, DL.iEnS, cSortT, mDic0, mDit0, gSubT, iCbR, cMinT, cMaxT, mIf, mChain, mFld, mIsC, mJoin, mSl, pNo, pSo, mLc, mLcC, mLc2, mLcK, mDc, mDcC, mIsi, mBack, mApp, mPop, mMake, mMeth, mHeard, iSeq, iRng1', iRng2', iEn, iCb, gNm, gTup1, gCons', gNil', gSub', mNm, mYes, startD, wipeD, isB, isI, isS, List.map_cons, List.map_nil, List.length_cons, List.length_nil, List.replicate_succ, List.replicate_zero, List.cons_append, List.nil_append, List.getElem?_cons_zero, List.getElem?_cons_succ, List.set_cons_zero, List.set_cons_succ, Nat.reduceAdd, Nat.reduceSub, if_true, true_and, ix20, ix21, oAdd_ii, oAdd_ss, oAdd_tt, oAdd_ll, oSub_ii, oMul_ii, oDiv_ii, oMod_ii, oPow_ii, oNeg_i, oLt_ii, oLe_ii, oGt_ii, oGe_ii, oEq_ii, oNe_ii, oEq_ss, oNe_ss, cInt_i, cInt_b, cAbs_i, cLen_s, cLen_l, cLen_f, cLen_t, cMin_2, cMax_2, cMax_3, cTuple_l, cTuple_t, cDivmod_ii, cListC_s, items_l, items_t, items_s, Nat.reduceLeDiff]
    obtain ⟨x0, x1, x2, x3, rfl⟩ : ∃ a b c d, x = [a, b, c, d] := by
      have := hx4
      match x, this with
      | [a, b, c, d], _ => exact ⟨a, b, c, d, rfl⟩
    have hL : (st0 ++ ex).length = st0.length + ex.length := List.length_append
    have ps : [D.str p, D.str q, D.str r] = [p, q, r].map D.str := rfl
    rw [ps]
    refine forD_rel0 (fun j ρ st => ∃ y4 y5 y6 y7 y8, st = st0 ++ ex ++ [.lst (((([p, q, r].take j).map fun z => Md.hitM z [x0, x1, x2, x3])).map D.int)] ∧ ρ = [some (.str l), some (.lst [.str p, .str q, .str r]), some (.str [x0, x1, x2, x3]), some (.cel (st0 ++ ex).length), y4, y5, y6, y7, y8]) ⟨_, _, _, _, _, rfl, rfl⟩ ?_ ?_
    · rintro j z ρ st hj ⟨y4, y5, y6, y7, y8, rfl, rfl⟩
      have hz : z.length ≤ 1000 := by
        have := List.mem_of_getElem? hj
        simp only [List.mem_cons, List.not_mem_nil, or_false] at this
        rcases this with rfl | rfl | rfl <;> assumption
      refine ⟨trivial, fun N2 hN2 => ?_⟩
      simp only [sIf, sSeq, sRet, sRetN, sAsg, sSet, sDrop, sNext, sNever, sPar, sFor, sFldD, mNot, mTv, mAnd, mOr, mAndV, mOrV, mNotV, mBin, mUn, mC, mCall, mCons, mNil, mTup, mLst, mLstC, mFn, mFnK, mCallL, mLenO, mLz, mIdx, DL.iZip, DL.iEnS, cSortT, mDic0, mDit0, gSubT, iCbR, cMinT, cMaxT, mIf, mChain, mFld, mIsC, mJoin, mSl, pNo, pSo, mLc, mLcC, mLc2, mLcK, mDc, mDcC, mIsi, mBack, mApp, mPop, mMake, mMeth, mHeard, iSeq, iRng1', iRng2', iEn, iCb, gNm, gTup1, gCons', gNil', gSub', mNm, mYes, startD, wipeD, isB, isI, isS, List.map_cons, List.map_nil, List.length_cons, List.length_nil, List.replicate_succ, List.replicate_zero, List.cons_append, List.nil_append, List.getElem?_cons_zero, List.getElem?_cons_succ, List.set_cons_zero, List.set_cons_succ, Nat.reduceAdd, Nat.reduceSub, if_true, true_and, ix20, ix21, oAdd_ii, oAdd_ss, oAdd_tt, oAdd_ll, oSub_ii, oMul_ii, oDiv_ii, oMod_ii, oPow_ii, oNeg_i, oLt_ii, oLe_ii, oGt_ii, oGe_ii, oEq_ii, oNe_ii, oEq_ss, oNe_ss, cInt_i, cInt_b, cAbs_i, cLen_s, cLen_l, cLen_f, cLen_t, cMin_2, cMax_2, cMax_3, cTuple_l, cTuple_t, cDivmod_ii, cListC_s, items_l, items_t, items_s, Nat.reduceLeDiff]
      have e4 : [D.str [x0], D.str [x1], D.str [x2], D.str [x3]] = ([x0, x1, x2, x3] : List Nat).map fun c => D.str [c] := rfl
      rw [e4]
      refine lcD_m (f := fun c => D.bl (false != decide (c ∈ z))) (fun c hc K1 q => q) trivial ?_
      refine ⟨by decide, ?_⟩
      have er : rngD 1 (4 - 1 : Int).toNat = ([1, 2, 3] : List Nat).map fun (k : Nat) => D.int (k : Int) := rfl
      rw [er]
      refine ⟨by decide, ?_⟩
      refine lcD_pf (p := fun k => decide (decide (([x0, x1, x2, x3] : List Nat).getD k 0 ∈ z) = decide (([x0, x1, x2, x3] : List Nat).getD 0 0 ∈ z))) (f := fun (k : Nat) => D.int (k : Int)) (fun k hk K1 K0 q => ?_) trivial ?_
      · simp only [sIf, sSeq, sRet, sRetN, sAsg, sSet, sDrop, sNext, sNever, sPar, sFor, sFldD, mNot, mTv, mAnd, mOr, mAndV, mOrV, mNotV, mBin, mUn, mC, mCall, mCons, mNil, mTup, mLst, mLstC, mFn, mFnK, mCallL, mLenO, mLz, mIdx, DL.iZip, DL.iEnS, cSortT, mDic0, mDit0, gSubT, iCbR, cMinT, cMaxT, mIf, mChain, mFld, mIsC, mJoin, mSl, pNo, pSo, mLc, mLcC, mLc2, mLcK, mDc, mDcC, mIsi, mBack, mApp, mPop, mMake, mMeth, mHeard, iSeq, iRng1', iRng2', iEn, iCb, gNm, gTup1, gCons', gNil', gSub', mNm, mYes, startD, wipeD, isB, isI, isS, List.map_cons, List.map_nil, List.length_cons, List.length_nil, List.replicate_succ, List.replicate_zero, List.cons_append, List.nil_append, List.getElem?_cons_zero, List.getElem?_cons_succ, List.set_cons_zero, List.set_cons_succ, Nat.reduceAdd, Nat.reduceSub, if_true, true_and, ix20, ix21, oAdd_ii, oAdd_ss, oAdd_tt, oAdd_ll, oSub_ii, oMul_ii, oDiv_ii, oMod_ii, oPow_ii, oNeg_i, oLt_ii, oLe_ii, oGt_ii, oGe_ii, oEq_ii, oNe_ii, oEq_ss, oNe_ss, cInt_i, cInt_b, cAbs_i, cLen_s, cLen_l, cLen_f, cLen_t, cMin_2, cMax_2, cMax_3, cTuple_l, cTuple_t, cDivmod_ii, cListC_s, items_l, items_t, items_s, Nat.reduceLeDiff]
        have st' : ∀ (st : Store) (Q : QD), (∀ b : Bool, b = decide (decide (([x0, x1, x2, x3] : List Nat).getD k 0 ∈ z) = decide (x0 ∈ z)) → Q (.bl b) st) → oIx st (.lst [.bl (false != decide (x0 ∈ z)), .bl (false != decide (x1 ∈ z)), .bl (false != decide (x2 ∈ z)), .bl (false != decide (x3 ∈ z))]) (.int (k : Int)) fun x st1 => oIx st1 (.lst [.bl (false != decide (x0 ∈ z)), .bl (false != decide (x1 ∈ z)), .bl (false != decide (x2 ∈ z)), .bl (false != decide (x3 ∈ z))]) (.int 0) fun y st2 => oEq st2 x y Q := fun st Q h => by
          simp only [List.mem_cons, List.not_mem_nil, or_false] at hk
          rcases hk with rfl | rfl | rfl
          · exact h _ (by simp only [Bool.false_bne]; rfl)
          · exact h _ (by simp only [Bool.false_bne]; rfl)
          · exact h _ (by simp only [Bool.false_bne]; rfl)
        exact st' _ _ fun b hb => by
          subst hb
          exact q
      · have em : (([1, 2, 3] : List Nat).filter fun k => decide (decide (([x0, x1, x2, x3] : List Nat).getD k 0 ∈ z) = decide (([x0, x1, x2, x3] : List Nat).getD 0 0 ∈ z))) = Md.matesM z [x0, x1, x2, x3] := rfl
        rw [em]
        have eh : ([p, q, r].take (j + 1)).map (fun z => Md.hitM z [x0, x1, x2, x3]) = ([p, q, r].take j).map (fun z => Md.hitM z [x0, x1, x2, x3]) ++ [Md.hitM z [x0, x1, x2, x3]] := by
          rw [List.take_add_one, hj, List.map_append]; rfl
        have hj3 : ((([p, q, r].take j).map fun z => Md.hitM z [x0, x1, x2, x3]).map D.int).length ≤ 3 := by
          rw [List.length_map, List.length_map, List.length_take]; simp only [List.length_cons, List.length_nil]; omega
        have fin : ∀ y6 y7 y8, N2 [some (.str l), some (.lst [.str p, .str q, .str r]), some (.str [x0, x1, x2, x3]), some (.cel (st0 ++ ex).length), some (.str z), some (.lst (List.map (fun c => D.bl (false != decide (c ∈ z))) [x0, x1, x2, x3])), y6, y7, y8] ((st0 ++ ex ++ [Cell.lst ((([p, q, r].take j).map fun z => Md.hitM z [x0, x1, x2, x3]).map D.int)]).set (st0 ++ ex).length (Cell.lst ((([p, q, r].take j).map fun z => Md.hitM z [x0, x1, x2, x3]).map D.int ++ [D.int (Md.hitM z [x0, x1, x2, x3])]))) := fun y6 y7 y8 => by
          rw [set_last]
          refine hN2 _ _ ⟨_, _, _, _, _, ?_, rfl⟩
          rw [eh, List.map_append]; rfl
        refine isCel_of (last_at _ _) ?_
        unfold Md.hitM at fin eh
        rcases hm : Md.matesM z [x0, x1, x2, x3] with _ | ⟨m, _ | ⟨m', ms⟩⟩
        · rw [hm] at fin
          rw [if_neg (by decide)]
          exact isCel_of (last_at _ _) (And.intro (by omega) (fin _ _ _))
        · rw [hm] at fin
          refine iteT ?_
          refine oIx_seq (xs := [D.int m]) (i := 0) (.inl rfl) rfl rfl ?_
          exact isCel_of (last_at _ _) (And.intro (by omega) (fin _ _ _))
        · rw [hm] at fin
          have hne : ¬ ((((m :: m' :: ms).map fun (k : Nat) => D.int (k : Int)).length : Int) = 1) := by simp only [List.length_map, List.length_cons]; omega
          rw [decide_eq_false hne, if_neg (by decide)]
          exact isCel_of (last_at _ _) (And.intro (by omega) (fin _ _ _))
    · rintro ρ st ⟨y4, y5, y6, y7, y8, rfl, rfl⟩
      refine ⟨trivial, ?_⟩
      rw [List.take_length]
      simp only [sIf, sSeq, sRet, sRetN, sAsg, sSet, sDrop, sNext, sNever, sPar, sFor, sFldD, mNot, mTv, mAnd, mOr, mAndV, mOrV, mNotV, mBin, mUn, mC, mCall, mCons, mNil, mTup, mLst, mLstC, mFn, mFnK, mCallL, mLenO, mLz, mIdx, DL.iZip, DL.iEnS, cSortT, mDic0, mDit0, gSubT, iCbR, cMinT, cMaxT, mIf, mChain, mFld, mIsC, mJoin, mSl, pNo, pSo, mLc, mLcC, mLc2, mLcK, mDc, mDcC, mIsi, mBack, mApp, mPop, mMake, mMeth, mHeard, iSeq, iRng1', iRng2', iEn, iCb, gNm, gTup1, gCons', gNil', gSub', mNm, mYes, startD, wipeD, isB, isI, isS, List.map_cons, List.map_nil, List.length_cons, List.length_nil, List.replicate_succ, List.replicate_zero, List.cons_append, List.nil_append, List.getElem?_cons_zero, List.getElem?_cons_succ, List.set_cons_zero, List.set_cons_succ, Nat.reduceAdd, Nat.reduceSub, if_true, true_and, ix20, ix21, oAdd_ii, oAdd_ss, oAdd_tt, oAdd_ll, oSub_ii, oMul_ii, oDiv_ii, oMod_ii, oPow_ii, oNeg_i, oLt_ii, oLe_ii, oGt_ii, oGe_ii, oEq_ii, oNe_ii, oEq_ss, oNe_ss, cInt_i, cInt_b, cAbs_i, cLen_s, cLen_l, cLen_f, cLen_t, cMin_2, cMax_2, cMax_3, cTuple_l, cTuple_t, cDivmod_ii, cListC_s, items_l, items_t, items_s, Nat.reduceLeDiff]
      show lstOf _ _ _
      rw [lstOf, dr_of (last_at _ _)]
      refine .inr ⟨[Md.hitM p [x0, x1, x2, x3], Md.hitM q [x0, x1, x2, x3], Md.hitM r [x0, x1, x2, x3]], rfl, ?_⟩
      have e3 : [D.int 1, D.int 2, D.int 3] = ([1, 2, 3] : List Int).map D.int := rfl
      rw [e3]
      have hb : ∀ (z y : List Nat), (Md.hitM z y).natAbs < 10 ^ 11 := hit_small
      refine oEq_ints (fun n hn => ?_) (by decide) ?_
      · have := List.mem_mergeSort.mp hn
        simp only [List.mem_cons, List.not_mem_nil, or_false] at this
        rcases this with rfl | rfl | rfl <;> exact hb _ _
      · have hh : [Md.hitM p [x0, x1, x2, x3], Md.hitM q [x0, x1, x2, x3], Md.hitM r [x0, x1, x2, x3]] = [p, q, r].map fun s => (hitM s [x0, x1, x2, x3] : Int) := by
          simp only [List.map_cons, List.map_nil, hit_hit]
        have hs := hits_clash (p := p) (q := q) (r := r) (x0 := x0) (x1 := x1) (x2 := x2) (x3 := x3) (ns := [Md.hitM p [x0, x1, x2, x3], Md.hitM q [x0, x1, x2, x3], Md.hitM r [x0, x1, x2, x3]].mergeSort fun a b => decide (a ≤ b)) (by
            simp only [List.pairwise_cons, List.mem_cons, List.not_mem_nil, or_false] at hrise
            exact hrise.2.1 x2 (.inl rfl)) (by
            simp only [List.pairwise_cons, List.mem_cons, List.not_mem_nil, or_false] at hrise
            exact hrise.2.2.1 x3 rfl) (by rw [← hh]; exact List.mergeSort_perm _ _) (by
            have := List.pairwise_mergeSort (le := fun a b : Int => decide (a ≤ b)) (fun a b c h1 h2 => by simp at *; omega) (fun a b => by simp; omega) [Md.hitM p [x0, x1, x2, x3], Md.hitM q [x0, x1, x2, x3], Md.hitM r [x0, x1, x2, x3]]
            exact this.imp fun h => by simpa using h)
        rw [hs]
        cases hc : clashB [p, q, r] [x0, x1, x2, x3] with
        | true =>
          refine iteT ?_
          have ek : clashM l [p, q, r] = true := by
            rw [clash_four hl, List.any_eq_true]
            exact ⟨_, hmem, hc⟩
          rw [ek] at k
          rw [List.append_assoc]
          exact exit_plx _ rfl k
        | false =>
          refine iteF (hN' _ _ ⟨⟨ex ++ [_], by rw [← List.append_assoc]⟩, fun x hx => ?_, _, _, _, _, _, _, _, rfl⟩)
          rw [take_snoc hi] at hx
          rcases List.mem_append.mp hx with hx | hx
          · exact hno x hx
          · rw [List.mem_singleton.mp hx]; exact hc
  · rintro ρ st ⟨⟨ex, rfl⟩, hno, y2, y3, y4, y5, y6, y7, y8, rfl⟩
    rw [List.take_length] at hno
    have ek : clashM l [p, q, r] = false := by
      rw [clash_four hl, List.any_eq_false]
      intro x hx
      rw [hno x hx]; decide
    rw [ek] at k
    exact ⟨trivial, exit_plx ex rfl k⟩
end
end K20d
set_option Elab.async false
set_option linter.all false
set_option maxRecDepth 100000
set_option maxHeartbeats 4000000
/-! keywords alone, defs whose guards are known: of no one law -/
namespace Ke
open PySem PySem.Spec PyProof.Rows L2 Nf DL Pd Nd Ld Hd
section
/-! ### keywords alone, told from the last parameter to the first -/
theorem vals_rev : ∀ {vs : List V} {us : List Value}, Vals vs us → Vals vs.reverse us.reverse
  | _, _, .nil => .nil
  | _, _, .cons r t => by
    rw [List.reverse_cons, List.reverse_cons]
    exact (vals_rev t).append (.cons r .nil)
theorem kbn_rev {K : PySem.W.Frag} {x : Str} {st : Stmt} {f : Addr} {fd : FuncData} {ps ks : List Str} (F : Fun K x x st f fd)
    (h : ∀ (kV doc pm : Value) (an : Option Addr) (cdv ct : Value) (ws : List Value), ws.length = ks.length → bindArgs (PySem.W.fnOf x x (defArgs st) (defBody st) (defScope st) .none kV doc pm an cdv ct) ⟨[], ks.zip ws⟩ = pure (ps.zip ws.reverse)) :
    KBn K fd ps 0 ks (fun _ ws => ws.reverse) (fun _ zs => zs.reverse) := by
  obtain ⟨oc, od, kV, doc, pm, an, cdv, ct, osl, rfl, lk, hcd⟩ := F.ex
  refine ⟨fun s us ws hk hu hw => ?_, fun _ r => vals_rev r⟩
  obtain rfl : us = [] := List.eq_nil_of_length_eq_zero hu
  exact .of_eq (h kV doc pm an cdv ct ws hw)
theorem pkr_rev {K : PySem.W.Frag} (n : Nat) : PKr K (fun _ zs => zs.reverse) List.reverse n := ⟨fun _ _ _ _ r _ => RpL.reverse r⟩
theorem range_at {n i a : Nat} (h : (List.range n)[i]? = some a) : i = a ∧ i < n := by
  obtain ⟨h1, h2⟩ := List.getElem?_eq_some_iff.mp h
  rw [List.getElem_range] at h2
  exact ⟨h2, by rw [List.length_range] at h1; exact h1⟩
theorem lot_ok {l : List Nat} (h : isLotM l lettersL = true) : okL l := fun c hc => by
  have : ∀ c ∈ lettersL, c < 0x110000 := by decide +kernel
  exact this c (lot_sub h c hc)
variable {P : Program} {w : World} {K : PySem.W.Frag} {mg : Str → Option Value} {base : Heap} {C : Addr} {f : Addr} {fd : FuncData}
theorem Fun.okG {x : Str} {st : Stmt} {N ps : List Str} {k : Nat} {sp : Sp} (F : Fun K x x st f fd) (S : FnScope N ps (defScope st)) (len : ∀ vs H Q E, sp vs H Q E → vs.length = ps.length)
    (hbody : ∀ (cdv : Value) (A : Around) (outer : List PySem.Env) (s : Shared) (H : Hp) (vs : List V) (Q : VK) (E : XK), Room k (A.deeper (envOfC x (defScope st) s.heap.objs.size f cdv)) → (A.deeper (envOfC x (defScope st) s.heap.objs.size f cdv)).guards = some [] → sp vs H Q E →
      ∃ t, PSs (cxOf CX0 P w K mg base N x (defScope st) f cdv A outer s H E).nox (defBody st) t ∧ t { nx := fun _ H' => Q .non H', rt := Q } (L2.start N vs) H) : FnOkG P w K mg base (k + 1) f fd ps sp := by
  obtain ⟨oc, od, kV, doc, pm, an, cdv, ct, osl, rfl, lk, hcd⟩ := F.ex
  refine ⟨len, fun A outer s H args us vs Q E hr hg e0 hb r h => ?_⟩
  exact LamX.run_ofS lk hcd S hr e0 hb r (len _ _ _ _ h) fun hr' => by
    obtain ⟨t, ht, hq⟩ := hbody cdv A outer s H vs Q E hr' hg h
    exact ⟨t, ht.nox, hq⟩
theorem fnGF {x : Str} {st : Stmt} {N ps : List Str} {k : Nat} {S : MC} {m : MS} (F : Fun K x x st f fd) (Sc : FnScope N ps (defScope st))
    (hb : ∀ (cdv : Value) (A : Around) (outer : List PySem.Env) (s : Shared) (H : Hp) (E : XK), Room k (A.deeper (envOfC x (defScope st) s.heap.objs.size f cdv)) → (A.deeper (envOfC x (defScope st) s.heap.objs.size f cdv)).guards = some [] → DSs K (cxOf CX0 P w K mg base N x (defScope st) f cdv A outer s H E).nox (defBody st) m)
    (hm : ∀ st0 ds Qd, ds.length = ps.length → S st0 ds Qd → m (startD N ds) st0 { nx := fun _ st1 => exitF st0 Qd .non st1, rt := exitF st0 Qd }) : FnOkG P w K mg base (k + 1) f fd ps (spD K ps.length S) := by
  refine Fun.okG F Sc (fun vs H Q E h => h.1) fun cdv A outer s H vs Q E hr hg h => ⟨_, hb cdv A outer s H E hr hg, ?_⟩
  obtain ⟨hl, μ, st0, ds, Qd, r, s0, q, kk⟩ := h
  have kx := exitF_cont s0 kk
  refine ⟨μ, startD N ds, st0, _, start_eq r, s0, hm st0 ds Qd (by rw [r.length]; exact hl) q, ⟨fun ρ st1 σ μ' H' q1 e1 s1 g1 => ?_, kx, fun ρ st1 σ μ' H' q1 e1 s1 g1 => q1.elim, fun ρ st1 σ μ' H' q1 e1 s1 g1 => q1.elim⟩⟩
  exact (kx.to g1).at q1 (.non _ _) s1
end
end Ke
set_option Elab.async false
set_option linter.all false
set_option maxRecDepth 100000
set_option maxHeartbeats 8000000
namespace K20d
open PySem PySem.Spec PyProof.Rows L2 Nf DL Pd Nd Ld Cd Hd Ke
section
/-! ### heard -/
theorem heard_gives {X : Cx} {g : Addr} {cdg : Value} {q : Str} : LamX.GivesTo X N_law_heard "_law_heard" (defScope s_law_heard) g cdg (defBody s_law_heard) "_law_act" q tTold := by
  intro f c' s H Q tl act hc h
  refine ⟨_, pss_cons (ps_try_thru0 (pss_one (ps_set (i := 1) sc_law_heard.nd rfl (Or.inl rfl) (act (fun _ _ _ _ => False) [] (fun _ _ => False) (fun _ _ _ => False) _ _ LamX.takes0 (fun _ _ _ _ h => h))))) (pss_one (ps_ret (pe_lst (pa_cons pe_str (pa_cons (pv 1) pa_nil))))), ?_⟩
  exact ⟨rfl, hc, h⟩
structure Heard (K : PySem.W.Frag) (mg : Str → Option Value) : Prop where
  ex : ∃ g fd, mg "_law_heard" = some (.ref g) ∧ Fun K "_law_heard" "_law_heard" s_law_heard g fd ∧ Binds K fd ["_law_act"] []
theorem pe_heard {X : Cx} {k : Nat} {c P : Addr} {q : Str} {params : Arguments} {body : Expr} {scope : Scope} {t : XK → TE} {p lpos pos : Pos} (h : Heard X.K X.mg) (TB : LamX.TabB X.base X.mg c P) (hcode : X.env.code = .ref c) (hq : X.env.qual ++ "<lambda>" = q) (hr : Room (k + 2) X.A) (L : LamX.LamS X.env.scope scope)
    (hbody : ∀ (A : Around) (outer : List PySem.Env) (s : Shared) (H : Hp) (E : XK) (f c' : Addr), Room k (A.deeper (LamX.lamEnv X scope s.heap.objs.size f c')) → PE (LamX.lamCx X A outer s H E scope f c') body (t E))
    (hg : Gl X "_law_heard" := by rfl) (hdef : defaultsOf params X.env = ([], []) := by rfl) (hbind : ∀ (q : Str) (cl : List (Str × Addr)) (pm cv ctv : Value), bindArgs (PySem.W.kla_fn "<lambda>" q params body scope cl pm cv ctv) ⟨[], []⟩ = pure [] := by intro _ _ _ _ _; rfl) :
    PE X (.Call (.Name "_law_heard" p) [.Lambda params body scope lpos] [] pos) (LamX.tLam [(P, q)] tTold t) := by
  subst hq
  obtain ⟨g, fd, hm, F, hb⟩ := h.ex
  obtain ⟨oc, od, kV, doc, pm, an, cdv, ct, osl, rfl, lk, hcd⟩ := F.ex
  exact LamX.pe_lamcall (T := [(P, X.env.qual ++ "<lambda>")]) hg hm F.kp lk hcd hb sc_law_heard rfl (Or.inl rfl) heard_gives TB hcode (List.mem_singleton.mpr rfl) (fun p hp _ => by rw [List.mem_singleton.mp hp]) hr L hdef hbind hbody
theorem tab_ok {C : Addr} {st : Store} {l : List Nat} {far : Nat → Nat → Int} (h : Nm l 2 5) (F : FarOk l far) : TabOk C st (tabD C l far) l far := ⟨rfl, h.1, h.2.1, by have := h.2.2; omega, F⟩
abbrev lamQ : Str := "_law_right.<locals>.<lambda>"
def S_law_right (T : List (Addr × Str)) : MC := fun st ds Q => ∃ u : Nat, ds = [.cel u] ∧ urnAt st u ∧ TabsIn T st ∧ ∀ st', Drew st u st' → Q (.bl true) st'
theorem lot_ok {l : List Nat} (h : isLotM l lettersL = true) : okL l := lot_okL h
theorem sx_lots {l : List Nat} (hN : Nm l 2 5) (h7 : l.length ≤ 7) : SxD 2 6000 (.tup ((srt (lotsL (l.drop 1))).map D.str)) := by
  have hn := lot_nd hN.1
  have := SxD.tup (ds := (srt (lotsL (l.drop 1))).map D.str) (dep := 0) (wt := 7) fun x hx => by
    obtain ⟨r, hr, rfl⟩ := List.mem_map.mp hx
    have hc := lots_part hn h7 hr
    exact (SxD.str fun c hc' => lot_okL hN.1 c (parting_sub hc.1 c hc')).mono (by omega) hc.2
  refine this.mono (by decide) ?_
  have := lots_len h7
  rw [List.length_map]; omega
def E4 (C : Addr) (st0 : Store) (u : Nat) (l : List Nat) (kvs : List (DK × D)) (far : Nat → Nat → Int) : DL.Env → Store → Prop := fun ρ st => RS st0 u st ∧ ∃ y1 y6 y7 y8 y9 y10 y11 y12, ρ = [some (.cel u), y1, some (.str l), some (.dic kvs), some (tabD C l far), some (.lst ((srt (lotsL (l.drop 1))).map D.str)), y6, y7, y8, y9, y10, y11, y12]
variable {P : Program} {w : World} {K : PySem.W.Frag} {mg : Str → Option Value} {base : Heap} {C : Addr} {f : Addr} {fd : FuncData}
theorem ok_law_right {c Tp : Addr} (F : FunC K "_law_right" s_law_right f fd c) (T : Txt K mg C) (TB : LamX.TabB base mg c Tp) (CH : Heard K mg) (C_law_world : CanD P w K mg base 4 "_law_world" s_law_world ["_law_urn_here", "_law_least", "_law_most"] S_law_world) (C_law_lots : CanD P w K mg base 1 "_law_lots" s_law_lots ["_law_names_here"] S_law_lots) (C_law_made : CanD P w K mg base 7 "_law_made" s_law_made ["_law_names_here", "_law_far"] (S_law_made C)) (C_partings : CanD P w K mg base 3 "partings" s_partings ["table"] (S_partings C)) (C_law_twos : CanD P w K mg base 1 "_law_twos" s_law_twos ["_law_names_here"] S_law_twos) (C_parts : CanD P w K mg base 4 "parts" s_parts ["table", "parting", "pair"] (S_parts C)) (C_law_splits : CanD P w K mg base 1 "_law_splits" s_law_splits ["_law_lot", "_law_two"] S_law_splits) (C_cross : CanD P w K mg base 4 "cross" s_cross ["table", "parting", "other_parting"] (S_cross C)) (C_law_do_cross : CanD P w K mg base 1 "_law_do_cross" s_law_do_cross ["_law_names_here", "_law_one", "_law_two"] S_law_do_cross) (C_law_pick : CanD P w K mg base 2 "_law_pick" s_law_pick ["_law_urn_here", "_law_items"] S_law_pick) (C_clash : CanD P w K mg base 5 "clash" s_clash ["table", "parting", "other_parting", "third_parting"] (S_clash C)) (C_law_do_clash : CanD P w K mg base 2 "_law_do_clash" s_law_do_clash ["_law_names_here", "_law_lots_here"] S_law_do_clash) : FnOkG P w K mg base 8 f fd ["_law_urn_here"] (spD K 1 (S_law_right [(Tp, lamQ)])) := by
  have kb_partings : ∀ f fd, Fun K "partings" "partings" s_partings f fd → KBn K fd ["table"] 0 ["table"] (fun _ ws => ws.reverse) (fun _ zs => zs.reverse) := fun f fd F => kbn_rev F fun kV doc pm an cdv ct ws hl => match ws, hl with | [_], _ => rfl
  have kb_parts : ∀ f fd, Fun K "parts" "parts" s_parts f fd → KBn K fd ["table", "parting", "pair"] 0 ["pair", "parting", "table"] (fun _ ws => ws.reverse) (fun _ zs => zs.reverse) := fun f fd F => kbn_rev F fun kV doc pm an cdv ct ws hl => match ws, hl with | [_, _, _], _ => rfl
  have kb_cross : ∀ f fd, Fun K "cross" "cross" s_cross f fd → KBn K fd ["table", "parting", "other_parting"] 0 ["other_parting", "parting", "table"] (fun _ ws => ws.reverse) (fun _ zs => zs.reverse) := fun f fd F => kbn_rev F fun kV doc pm an cdv ct ws hl => match ws, hl with | [_, _, _], _ => rfl
  have kb_clash : ∀ f fd, Fun K "clash" "clash" s_clash f fd → KBn K fd ["table", "parting", "other_parting", "third_parting"] 0 ["third_parting", "other_parting", "parting", "table"] (fun _ ws => ws.reverse) (fun _ zs => zs.reverse) := fun f fd F => kbn_rev F fun kV doc pm an cdv ct ws hl => match ws, hl with | [_, _, _, _], _ => rfl
  have hrev : ∀ (n : Nat) (ds : List D), ds.length = n → ds.reverse.length = n := fun n ds h => by rw [List.length_reverse]; exact h
  refine fnG F sc_law_right (fun A outer s H E hr hgd => (dss_cons (ds_for PassesOwn.never rfl (di_range1 T.range de_int) (dg_nm (i := 1) sc_law_right.nd rfl (Or.inl rfl) (Or.inr rfl)) (dss_cons (ds_asg (de_fn C_law_world (hr.mono (by decide)) (da_cons (dv 0) (da_cons de_int (da_cons de_int da_nil)))) (dg_tup1 (K := K) (n := 2) rfl (dgs_cons (dg_nm (i := 2) sc_law_right.nd rfl (Or.inl rfl) (Or.inr rfl)) (dgs_cons (dg_nm (i := 3) sc_law_right.nd rfl (Or.inl rfl) (Or.inr rfl)) dgs_nil))))
  (dss_cons (ds_asg (de_tup (da_cons (de_fn C_law_made (hr.mono (by decide)) (da_cons (dv 2) (da_cons (dv 3) da_nil))) (da_cons (de_fn C_law_lots (hr.mono (by decide)) (da_cons (dv 2) da_nil)) da_nil))) (dg_tup1 (K := K) (n := 2) rfl (dgs_cons (dg_nm (i := 4) sc_law_right.nd rfl (Or.inr rfl) (Or.inl rfl)) (dgs_cons (dg_nm (i := 5) sc_law_right.nd rfl (Or.inl rfl) (Or.inr rfl)) dgs_nil))))
  (dss_cons (ds_set (i := 6) sc_law_right.nd rfl (Or.inl rfl) (de_lstC (da_cons (de_heardOf (pe_heard (k := 5) (q := lamQ) CH TB rfl rfl (hr.mono (by decide)) (LamX.lamS_by (sc := defScope s_law_right) (by decide +kernel)) fun _ _ _ _ _ _ _ hr => (de_fn C_partings (hr.mono (by decide)) (da_cons (dv 4) da_nil)))) da_nil)))
  (dss_cons (ds_expr (de_app (dv 6) (de_heardOf (pe_heard (k := 5) (q := lamQ) CH TB rfl rfl (hr.mono (by decide)) (LamX.lamS_by (sc := defScope s_law_right) (by decide +kernel)) fun _ _ _ _ _ _ _ hr => (de_fnK C_partings (hr.mono (by decide)) kb_partings (pkr_rev _) (hrev 1) (dk_cons (dv 4) dk_nil))))))
  (dss_cons (ds_if (dt_cmp (do_ne (K := K) hr.units) (de_callB (dc_repr (K := K) hgd hr.units) T.repr (da_cons (dv 6) da_nil)) (de_callB (dc_repr (K := K) hgd hr.units) T.repr (da_cons (de_bin (do_mul (K := K)) (de_lst (da_cons (de_lst (da_cons de_str (da_cons (de_callTy (dc_tuple (K := K)) T.tuple (da_cons (dv 5) da_nil)) da_nil))) da_nil)) de_int) da_nil)) (nomark _)) (dss_one (ds_ret de_bl)) dss_nil)
  (dss_cons (ds_for PassesOwn.never rfl (di_seq (dv 5)) (dg_nm (i := 7) sc_law_right.nd rfl (Or.inr rfl) (Or.inl rfl)) (dss_cons (ds_for PassesOwn.never rfl (di_seq (de_fn C_law_twos (hr.mono (by decide)) (da_cons (dv 2) da_nil))) (dg_nm (i := 8) sc_law_right.nd rfl (Or.inr rfl) (Or.inl rfl)) (dss_cons (ds_set (i := 6) sc_law_right.nd rfl (Or.inl rfl) (de_lstC (da_cons (de_heardOf (pe_heard (k := 5) (q := lamQ) CH TB rfl rfl (hr.mono (by decide)) (LamX.lamS_by (sc := defScope s_law_right) (by decide +kernel)) fun _ _ _ _ _ _ _ hr => (de_fn C_parts (hr.mono (by decide)) (da_cons (dv 4) (da_cons (dv 7) (da_cons (dv 8) da_nil)))))) da_nil)))
  (dss_cons (ds_expr (de_app (dv 6) (de_heardOf (pe_heard (k := 5) (q := lamQ) CH TB rfl rfl (hr.mono (by decide)) (LamX.lamS_by (sc := defScope s_law_right) (by decide +kernel)) fun _ _ _ _ _ _ _ hr => (de_fnK C_parts (hr.mono (by decide)) kb_parts (pkr_rev _) (hrev 3) (dk_cons (dv 8) (dk_cons (dv 7) (dk_cons (dv 4) dk_nil))))))))
  (dss_one (ds_if (dt_cmp (do_ne (K := K) hr.units) (de_callB (dc_repr (K := K) hgd hr.units) T.repr (da_cons (dv 6) da_nil)) (de_callB (dc_repr (K := K) hgd hr.units) T.repr (da_cons (de_bin (do_mul (K := K)) (de_lst (da_cons (de_lst (da_cons de_str (da_cons (de_fn C_law_splits (hr.mono (by decide)) (da_cons (dv 7) (da_cons (dv 8) da_nil))) da_nil))) da_nil)) de_int) da_nil)) (nomark _)) (dss_one (ds_ret de_bl)) dss_nil)))))
  (dss_one (ds_for PassesOwn.never rfl (di_seq (dv 5)) (dg_nm (i := 9) sc_law_right.nd rfl (Or.inr rfl) (Or.inl rfl)) (dss_cons (ds_set (i := 6) sc_law_right.nd rfl (Or.inl rfl) (de_lstC (da_cons (de_heardOf (pe_heard (k := 5) (q := lamQ) CH TB rfl rfl (hr.mono (by decide)) (LamX.lamS_by (sc := defScope s_law_right) (by decide +kernel)) fun _ _ _ _ _ _ _ hr => (de_fn C_cross (hr.mono (by decide)) (da_cons (dv 4) (da_cons (dv 7) (da_cons (dv 9) da_nil)))))) da_nil)))
  (dss_cons (ds_expr (de_app (dv 6) (de_heardOf (pe_heard (k := 5) (q := lamQ) CH TB rfl rfl (hr.mono (by decide)) (LamX.lamS_by (sc := defScope s_law_right) (by decide +kernel)) fun _ _ _ _ _ _ _ hr => (de_fnK C_cross (hr.mono (by decide)) kb_cross (pkr_rev _) (hrev 3) (dk_cons (dv 9) (dk_cons (dv 7) (dk_cons (dv 4) dk_nil))))))))
  (dss_one (ds_if (dt_cmp (do_ne (K := K) hr.units) (de_callB (dc_repr (K := K) hgd hr.units) T.repr (da_cons (dv 6) da_nil)) (de_callB (dc_repr (K := K) hgd hr.units) T.repr (da_cons (de_bin (do_mul (K := K)) (de_lst (da_cons (de_lst (da_cons de_str (da_cons (de_fn C_law_do_cross (hr.mono (by decide)) (da_cons (dv 2) (da_cons (dv 7) (da_cons (dv 9) da_nil)))) da_nil))) da_nil)) de_int) da_nil)) (nomark _)) (dss_one (ds_ret de_bl)) dss_nil))))))))
  (dss_one (ds_for PassesOwn.never rfl (di_range1 T.range de_int) (dg_nm (i := 10) sc_law_right.nd rfl (Or.inl rfl) (Or.inr rfl)) (dss_cons (ds_asg (de_tup (da_cons (de_fn C_law_pick (hr.mono (by decide)) (da_cons (dv 0) (da_cons (dv 5) da_nil))) (da_cons (de_fn C_law_pick (hr.mono (by decide)) (da_cons (dv 0) (da_cons (dv 5) da_nil))) (da_cons (de_fn C_law_pick (hr.mono (by decide)) (da_cons (dv 0) (da_cons (dv 5) da_nil))) da_nil)))) (dg_tup1 (K := K) (n := 3) rfl (dgs_cons (dg_nm (i := 11) sc_law_right.nd rfl (Or.inr rfl) (Or.inl rfl)) (dgs_cons (dg_nm (i := 8) sc_law_right.nd rfl (Or.inr rfl) (Or.inl rfl)) (dgs_cons (dg_nm (i := 12) sc_law_right.nd rfl (Or.inr rfl) (Or.inl rfl)) dgs_nil)))))
  (dss_cons (ds_set (i := 6) sc_law_right.nd rfl (Or.inl rfl) (de_lstC (da_cons (de_heardOf (pe_heard (k := 5) (q := lamQ) CH TB rfl rfl (hr.mono (by decide)) (LamX.lamS_by (sc := defScope s_law_right) (by decide +kernel)) fun _ _ _ _ _ _ _ hr => (de_fn C_clash (hr.mono (by decide)) (da_cons (dv 4) (da_cons (dv 11) (da_cons (dv 8) (da_cons (dv 12) da_nil))))))) da_nil)))
  (dss_cons (ds_expr (de_app (dv 6) (de_heardOf (pe_heard (k := 5) (q := lamQ) CH TB rfl rfl (hr.mono (by decide)) (LamX.lamS_by (sc := defScope s_law_right) (by decide +kernel)) fun _ _ _ _ _ _ _ hr => (de_fnK C_clash (hr.mono (by decide)) kb_clash (pkr_rev _) (hrev 4) (dk_cons (dv 12) (dk_cons (dv 8) (dk_cons (dv 11) (dk_cons (dv 4) dk_nil)))))))))
  (dss_one (ds_if (dt_cmp (do_ne (K := K) hr.units) (de_callB (dc_repr (K := K) hgd hr.units) T.repr (da_cons (dv 6) da_nil)) (de_callB (dc_repr (K := K) hgd hr.units) T.repr (da_cons (de_bin (do_mul (K := K)) (de_lst (da_cons (de_lst (da_cons de_str (da_cons (de_fn C_law_do_clash (hr.mono (by decide)) (da_cons (dv 2) (da_cons (de_lst (da_cons (dv 11) (da_cons (dv 8) (da_cons (dv 12) da_nil)))) da_nil))) da_nil))) da_nil)) de_int) da_nil)) (nomark _)) (dss_one (ds_ret de_bl)) dss_nil))))))))))))))
  (dss_one (ds_ret de_bl)))) ?_
  rintro st0 ds Qd _ ⟨u, rfl, hU, hT, k⟩
  simp only [sIf, sSeq, sRet, sRetN, sAsg, sSet, sDrop, sNext, sNever, sPar, sFor, sFldD, mNot, mTv, mAnd, mOr, mAndV, mOrV, mNotV, mBin, mUn, mC, mCall, mCons, mNil, mTup, mLst, mLstC, mFn, mFnK, mCallL, mLenO, mLz, mIdx, DL.iZip, DL.iEnS, cSortT, mDic0, mDit0, gSubT, iCbR, cMinT, cMaxT, mIf, mChain, mFld, mIsC, mJoin, mSl, pNo, pSo, mLc, mLcC, mLc2, mLcK, mDc, mDcC, mIsi, mBack, mApp, mPop, mMake, mMeth, mHeard, iSeq, iRng1', iRng2', iEn, iCb, gNm, gTup1, gCons', gNil', gSub', mNm, mYes, startD, wipeD, isB, isI, isS, List.map_cons, List.map_nil, List.length_cons, List.length_nil, List.replicate_succ, List.replicate_zero, List.cons_append, List.nil_append, List.getElem?_cons_zero, List.getElem?_cons_succ, List.set_cons_zero, List.set_cons_succ, Nat.reduceAdd, Nat.reduceSub, if_true, true_and, ix20, ix21, oAdd_ii, oAdd_ss, oAdd_tt, oAdd_ll, oSub_ii, oMul_ii, oDiv_ii, oMod_ii, oPow_ii, oNeg_i, oLt_ii, oLe_ii, oGt_ii, oGe_ii, oEq_ii, oNe_ii, oEq_ss, oNe_ss, cInt_i, cInt_b, cAbs_i, cLen_s, cLen_l, cLen_f, cLen_t, cMin_2, cMax_2, cMax_3, cTuple_l, cTuple_t, cDivmod_ii, cListC_s, items_l, items_t, items_s, Nat.reduceLeDiff]
  refine ⟨by decide, ?_⟩
  have er : ∀ n : Nat, rngD 0 n = (List.range n).map fun (i : Nat) => D.int (i : Int) := fun n => by
    unfold rngD; exact List.map_congr_left fun i _ => by rw [Int.zero_add]
  rw [er]
  refine forD_rel0 (fun i ρ st => RS st0 u st ∧ ∃ y1 y2 y3 y4 y5 y6 y7 y8 y9 y10 y11 y12, ρ = [some (.cel u), y1, y2, y3, y4, y5, y6, y7, y8, y9, y10, y11, y12]) ⟨.refl hU, _, _, _, _, _, _, _, _, _, _, _, _, rfl⟩ ?_ ?_
  · rintro i _ ρ st _ ⟨hR, y1, y2, y3, y4, y5, y6, y7, y8, y9, y10, y11, y12, rfl⟩
    refine ⟨trivial, fun N hN => ?_⟩
    refine seq_rel (fun ρ st => RS st0 u st ∧ ∃ l kvs far, Nm l 2 5 ∧ FarK l kvs far ∧ FarOk l far ∧ ∃ y1 y4 y5 y6 y7 y8 y9 y10 y11 y12, ρ = [some (.cel u), y1, some (.str l), some (.dic kvs), y4, y5, y6, y7, y8, y9, y10, y11, y12]) ?_ ?_
    rotate_left
    · intro N hN
      simp only [sIf, sSeq, sRet, sRetN, sAsg, sSet, sDrop, sNext, sNever, sPar, sFor, sFldD, mNot, mTv, mAnd, mOr, mAndV, mOrV, mNotV, mBin, mUn, mC, mCall, mCons, mNil, mTup, mLst, mLstC, mFn, mFnK, mCallL, mLenO, mLz, mIdx, DL.iZip, DL.iEnS, cSortT, mDic0, mDit0, gSubT, iCbR, cMinT, cMaxT, mIf, mChain, mFld, mIsC, mJoin, mSl, pNo, pSo, mLc, mLcC, mLc2, mLcK, mDc, mDcC, mIsi, mBack, mApp, mPop, mMake, mMeth, mHeard, iSeq, iRng1', iRng2', iEn, iCb, gNm, gTup1, gCons', gNil', gSub', mNm, mYes, startD, wipeD, isB, isI, isS, List.map_cons, List.map_nil, List.length_cons, List.length_nil, List.replicate_succ, List.replicate_zero, List.cons_append, List.nil_append, List.getElem?_cons_zero, List.getElem?_cons_succ, List.set_cons_zero, List.set_cons_succ, Nat.reduceAdd, Nat.reduceSub, if_true, true_and, ix20, ix21, oAdd_ii, oAdd_ss, oAdd_tt, oAdd_ll, oSub_ii, oMul_ii, oDiv_ii, oMod_ii, oPow_ii, oNeg_i, oLt_ii, oLe_ii, oGt_ii, oGe_ii, oEq_ii, oNe_ii, oEq_ss, oNe_ss, cInt_i, cInt_b, cAbs_i, cLen_s, cLen_l, cLen_f, cLen_t, cMin_2, cMax_2, cMax_3, cTuple_l, cTuple_t, cDivmod_ii, cListC_s, items_l, items_t, items_s, Nat.reduceLeDiff]
      refine ⟨u, 2, 5, rfl, hR.urn hU, by decide, by decide, by decide, fun l kvs far st1 d1 hNm hK hF => ?_⟩
      refine ⟨rfl, hN _ _ ⟨hR.draw hU d1, l, kvs, far, hNm, hK, hF, _, _, _, _, _, _, _, _, _, _, rfl⟩⟩
    rintro ρ st ⟨hR, l, kvs, far, hNm, hK, hF, y1, y4, y5, y6, y7, y8, y9, y10, y11, y12, rfl⟩
    have hn := lot_nd hNm.1
    have h7 : l.length ≤ 7 := by have := hNm.2.2; omega
    have hll := lots_len h7
    refine seq_rel (E4 C st0 u l kvs far) ?_ ?_
    rotate_left
    · intro N hN
      simp only [sIf, sSeq, sRet, sRetN, sAsg, sSet, sDrop, sNext, sNever, sPar, sFor, sFldD, mNot, mTv, mAnd, mOr, mAndV, mOrV, mNotV, mBin, mUn, mC, mCall, mCons, mNil, mTup, mLst, mLstC, mFn, mFnK, mCallL, mLenO, mLz, mIdx, DL.iZip, DL.iEnS, cSortT, mDic0, mDit0, gSubT, iCbR, cMinT, cMaxT, mIf, mChain, mFld, mIsC, mJoin, mSl, pNo, pSo, mLc, mLcC, mLc2, mLcK, mDc, mDcC, mIsi, mBack, mApp, mPop, mMake, mMeth, mHeard, iSeq, iRng1', iRng2', iEn, iCb, gNm, gTup1, gCons', gNil', gSub', mNm, mYes, startD, wipeD, isB, isI, isS, List.map_cons, List.map_nil, List.length_cons, List.length_nil, List.replicate_succ, List.replicate_zero, List.cons_append, List.nil_append, List.getElem?_cons_zero, List.getElem?_cons_succ, List.set_cons_zero, List.set_cons_succ, Nat.reduceAdd, Nat.reduceSub, if_true, true_and, ix20, ix21, oAdd_ii, oAdd_ss, oAdd_tt, oAdd_ll, oSub_ii, oMul_ii, oDiv_ii, oMod_ii, oPow_ii, oNeg_i, oLt_ii, oLe_ii, oGt_ii, oGe_ii, oEq_ii, oNe_ii, oEq_ss, oNe_ss, cInt_i, cInt_b, cAbs_i, cLen_s, cLen_l, cLen_f, cLen_t, cMin_2, cMax_2, cMax_3, cTuple_l, cTuple_t, cDivmod_ii, cListC_s, items_l, items_t, items_s, Nat.reduceLeDiff]
      refine ⟨l, kvs, far, rfl, ⟨hNm.1, hNm.2.1, h7⟩, hK, hF, ?_⟩
      refine ⟨l, rfl, h7, ?_⟩
      refine ⟨rfl, ?_⟩
      exact hN _ _ ⟨hR, _, _, _, _, _, _, _, _, rfl⟩
    clear hR y1 y4 y5 y6 y7 y8 y9 y10 y11 y12
    rintro ρ st ⟨hR, y1, y6, y7, y8, y9, y10, y11, y12, rfl⟩
    have sx := sx_lots hNm h7
    have part : ∀ p ∈ srt (lotsL (l.drop 1)), isPartingM p l = true ∧ p.length ≤ 7 := fun p hp => lots_part hn h7 hp
    -- partings
    refine back2 (i := 6) (d1 := .tup ((srt (lotsL (l.drop 1))).map D.str)) (d2 := .tup ((srt (lotsL (l.drop 1))).map D.str)) (by show 6 < 13; decide) (hR.tabs hU hT) ((hR.add _).tabs hU hT) (fun Q q => ⟨rfl, _, l, far, rfl, tab_ok hNm hF, q⟩) (fun Q q => ⟨rfl, _, l, far, rfl, tab_ok hNm hF, q⟩) ?_
    have hR2 := hR.add [told (.tup ((srt (lotsL (l.drop 1))).map D.str)), told (.tup ((srt (lotsL (l.drop 1))).map D.str))]
    refine seq_rel (E4 C st0 u l kvs far) ?_ ?_
    rotate_left
    · intro N hN
      refine reprs sx sx (by decide) (by decide) (by decide) rfl (fun Q q => twice (fun Q q => ?_) q) ?_
      · simp only [sIf, sSeq, sRet, sRetN, sAsg, sSet, sDrop, sNext, sNever, sPar, sFor, sFldD, mNot, mTv, mAnd, mOr, mAndV, mOrV, mNotV, mBin, mUn, mC, mCall, mCons, mNil, mTup, mLst, mLstC, mFn, mFnK, mCallL, mLenO, mLz, mIdx, DL.iZip, DL.iEnS, cSortT, mDic0, mDit0, gSubT, iCbR, cMinT, cMaxT, mIf, mChain, mFld, mIsC, mJoin, mSl, pNo, pSo, mLc, mLcC, mLc2, mLcK, mDc, mDcC, mIsi, mBack, mApp, mPop, mMake, mMeth, mHeard, iSeq, iRng1', iRng2', iEn, iCb, gNm, gTup1, gCons', gNil', gSub', mNm, mYes, startD, wipeD, isB, isI, isS, List.map_cons, List.map_nil, List.length_cons, List.length_nil, List.replicate_succ, List.replicate_zero, List.cons_append, List.nil_append, List.getElem?_cons_zero, List.getElem?_cons_succ, List.set_cons_zero, List.set_cons_succ, Nat.reduceAdd, Nat.reduceSub, if_true, true_and, ix20, ix21, oAdd_ii, oAdd_ss, oAdd_tt, oAdd_ll, oSub_ii, oMul_ii, oDiv_ii, oMod_ii, oPow_ii, oNeg_i, oLt_ii, oLe_ii, oGt_ii, oGe_ii, oEq_ii, oNe_ii, oEq_ss, oNe_ss, cInt_i, cInt_b, cAbs_i, cLen_s, cLen_l, cLen_f, cLen_t, cMin_2, cMax_2, cMax_3, cTuple_l, cTuple_t, cDivmod_ii, cListC_s, items_l, items_t, items_s, Nat.reduceLeDiff]
        exact q
      · exact hN _ _ ⟨hR2, _, _, _, _, _, _, _, _, rfl⟩
    clear hR hR2 y1 y6 y7 y8 y9 y10 y11 y12
    rintro ρ st ⟨hR, y1, y6, y7, y8, y9, y10, y11, y12, rfl⟩
    refine seq_rel (E4 C st0 u l kvs far) ?_ ?_
    rotate_left
    · intro N hN
      simp only [sIf, sSeq, sRet, sRetN, sAsg, sSet, sDrop, sNext, sNever, sPar, sFor, sFldD, mNot, mTv, mAnd, mOr, mAndV, mOrV, mNotV, mBin, mUn, mC, mCall, mCons, mNil, mTup, mLst, mLstC, mFn, mFnK, mCallL, mLenO, mLz, mIdx, DL.iZip, DL.iEnS, cSortT, mDic0, mDit0, gSubT, iCbR, cMinT, cMaxT, mIf, mChain, mFld, mIsC, mJoin, mSl, pNo, pSo, mLc, mLcC, mLc2, mLcK, mDc, mDcC, mIsi, mBack, mApp, mPop, mMake, mMeth, mHeard, iSeq, iRng1', iRng2', iEn, iCb, gNm, gTup1, gCons', gNil', gSub', mNm, mYes, startD, wipeD, isB, isI, isS, List.map_cons, List.map_nil, List.length_cons, List.length_nil, List.replicate_succ, List.replicate_zero, List.cons_append, List.nil_append, List.getElem?_cons_zero, List.getElem?_cons_succ, List.set_cons_zero, List.set_cons_succ, Nat.reduceAdd, Nat.reduceSub, if_true, true_and, ix20, ix21, oAdd_ii, oAdd_ss, oAdd_tt, oAdd_ll, oSub_ii, oMul_ii, oDiv_ii, oMod_ii, oPow_ii, oNeg_i, oLt_ii, oLe_ii, oGt_ii, oGe_ii, oEq_ii, oNe_ii, oEq_ss, oNe_ss, cInt_i, cInt_b, cAbs_i, cLen_s, cLen_l, cLen_f, cLen_t, cMin_2, cMax_2, cMax_3, cTuple_l, cTuple_t, cDivmod_ii, cListC_s, items_l, items_t, items_s, Nat.reduceLeDiff]
      refine forD_rel0 (fun i ρ st => E4 C st0 u l kvs far ρ st) ⟨hR, _, _, _, _, _, _, _, _, rfl⟩ ?_ ?_
      · clear hR y1 y6 y7 y8 y9 y10 y11 y12
        rintro i p ρ st hp ⟨hR, y1, y6, y7, y8, y9, y10, y11, y12, rfl⟩
        have pp := part p (List.mem_of_getElem? hp)
        refine ⟨trivial, fun N2 hN2 => ?_⟩
        -- parts
        show sSeq _ _ [some (.cel u), y1, some (.str l), some (.dic kvs), some (tabD C l far), some (.lst ((srt (lotsL (l.drop 1))).map D.str)), y6, some (.str p), y8, y9, y10, y11, y12] st _
        refine seq_rel (fun ρ st => RS st0 u st ∧ ∃ y1 y6 y8 y9 y10 y11 y12, ρ = [some (.cel u), y1, some (.str l), some (.dic kvs), some (tabD C l far), some (.lst ((srt (lotsL (l.drop 1))).map D.str)), y6, some (.str p), y8, y9, y10, y11, y12]) ?_ ?_
        rotate_left
        · intro N hN
          simp only [sIf, sSeq, sRet, sRetN, sAsg, sSet, sDrop, sNext, sNever, sPar, sFor, sFldD, mNot, mTv, mAnd, mOr, mAndV, mOrV, mNotV, mBin, mUn, mC, mCall, mCons, mNil, mTup, mLst, mLstC, mFn, mFnK, mCallL, mLenO, mLz, mIdx, DL.iZip, DL.iEnS, cSortT, mDic0, mDit0, gSubT, iCbR, cMinT, cMaxT, mIf, mChain, mFld, mIsC, mJoin, mSl, pNo, pSo, mLc, mLcC, mLc2, mLcK, mDc, mDcC, mIsi, mBack, mApp, mPop, mMake, mMeth, mHeard, iSeq, iRng1', iRng2', iEn, iCb, gNm, gTup1, gCons', gNil', gSub', mNm, mYes, startD, wipeD, isB, isI, isS, List.map_cons, List.map_nil, List.length_cons, List.length_nil, List.replicate_succ, List.replicate_zero, List.cons_append, List.nil_append, List.getElem?_cons_zero, List.getElem?_cons_succ, List.set_cons_zero, List.set_cons_succ, Nat.reduceAdd, Nat.reduceSub, if_true, true_and, ix20, ix21, oAdd_ii, oAdd_ss, oAdd_tt, oAdd_ll, oSub_ii, oMul_ii, oDiv_ii, oMod_ii, oPow_ii, oNeg_i, oLt_ii, oLe_ii, oGt_ii, oGe_ii, oEq_ii, oNe_ii, oEq_ss, oNe_ss, cInt_i, cInt_b, cAbs_i, cLen_s, cLen_l, cLen_f, cLen_t, cMin_2, cMax_2, cMax_3, cTuple_l, cTuple_t, cDivmod_ii, cListC_s, items_l, items_t, items_s, Nat.reduceLeDiff]
          refine ⟨l, rfl, h7, ?_⟩
          refine forD_rel0 (fun i ρ st => RS st0 u st ∧ ∃ y1 y6 y8 y9 y10 y11 y12, ρ = [some (.cel u), y1, some (.str l), some (.dic kvs), some (tabD C l far), some (.lst ((srt (lotsL (l.drop 1))).map D.str)), y6, some (.str p), y8, y9, y10, y11, y12]) ⟨hR, _, _, _, _, _, _, _, rfl⟩ ?_ ?_
          · clear hR y1 y6 y7 y8 y9 y10 y11 y12
            rintro j r ρ st hr ⟨hR, y1, y6, y8, y9, y10, y11, y12, rfl⟩
            have hrm := List.mem_of_getElem? hr
            obtain ⟨a, b, rfl, ha, hb⟩ := comb2_pair hrm
            refine ⟨trivial, fun N3 hN3 => ?_⟩
            show sSeq _ _ [some (.cel u), y1, some (.str l), some (.dic kvs), some (tabD C l far), some (.lst ((srt (lotsL (l.drop 1))).map D.str)), y6, some (.str p), some (.str [a, b]), y9, y10, y11, y12] st _
            refine asked (i := 6) (d := .bl (isPartedM p a b)) (dep := 0) (wt := 4) (by show 6 < 13; decide) ((SxD.bl _).mono (Nat.le_refl _) (by decide)) (by decide) (by decide) (by decide) (fun xs => ⟨hR.tabs hU hT, (hR.add xs).tabs hU hT⟩) (fun Q q => ⟨rfl, _, l, far, p, a, b, rfl, tab_ok hNm hF, pp.1, hrm, q⟩) (fun Q q => ⟨rfl, _, l, far, p, a, b, rfl, tab_ok hNm hF, pp.1, hrm, q⟩) (fun Q q => ⟨rfl, p, _, a, b, rfl, .inl rfl, q⟩) ?_
            exact hN3 _ _ ⟨hR.add _, _, _, _, _, _, _, _, rfl⟩
          · rintro ρ st h
            exact ⟨trivial, hN _ _ h⟩
        clear hR y1 y6 y7 y8 y9 y10 y11 y12
        rintro ρ st ⟨hR, y1, y6, y8, y9, y10, y11, y12, rfl⟩
        simp only [sIf, sSeq, sRet, sRetN, sAsg, sSet, sDrop, sNext, sNever, sPar, sFor, sFldD, mNot, mTv, mAnd, mOr, mAndV, mOrV, mNotV, mBin, mUn, mC, mCall, mCons, mNil, mTup, mLst, mLstC, mFn, mFnK, mCallL, mLenO, mLz, mIdx, DL.iZip, DL.iEnS, cSortT, mDic0, mDit0, gSubT, iCbR, cMinT, cMaxT, mIf, mChain, mFld, mIsC, mJoin, mSl, pNo, pSo, mLc, mLcC, mLc2, mLcK, mDc, mDcC, mIsi, mBack, mApp, mPop, mMake, mMeth, mHeard, iSeq, iRng1', iRng2', iEn, iCb, gNm, gTup1, gCons', gNil', gSub', mNm, mYes, startD, wipeD, isB, isI, isS, List.map_cons, List.map_nil, List.length_cons, List.length_nil, List.replicate_succ, List.replicate_zero, List.cons_append, List.nil_append, List.getElem?_cons_zero, List.getElem?_cons_succ, List.set_cons_zero, List.set_cons_succ, Nat.reduceAdd, Nat.reduceSub, if_true, true_and, ix20, ix21, oAdd_ii, oAdd_ss, oAdd_tt, oAdd_ll, oSub_ii, oMul_ii, oDiv_ii, oMod_ii, oPow_ii, oNeg_i, oLt_ii, oLe_ii, oGt_ii, oGe_ii, oEq_ii, oNe_ii, oEq_ss, oNe_ss, cInt_i, cInt_b, cAbs_i, cLen_s, cLen_l, cLen_f, cLen_t, cMin_2, cMax_2, cMax_3, cTuple_l, cTuple_t, cDivmod_ii, cListC_s, items_l, items_t, items_s, Nat.reduceLeDiff]
        refine forD_rel0 (fun i ρ st => RS st0 u st ∧ ∃ y1 y6 y8 y9 y10 y11 y12, ρ = [some (.cel u), y1, some (.str l), some (.dic kvs), some (tabD C l far), some (.lst ((srt (lotsL (l.drop 1))).map D.str)), y6, some (.str p), y8, y9, y10, y11, y12]) ⟨hR, _, _, _, _, _, _, _, rfl⟩ ?_ ?_
        · clear hR y1 y6 y8 y9 y10 y11 y12
          rintro j q ρ st hq ⟨hR, y1, y6, y8, y9, y10, y11, y12, rfl⟩
          have pq := part q (List.mem_of_getElem? hq)
          refine ⟨trivial, fun N3 hN3 => ?_⟩
          show sSeq _ _ [some (.cel u), y1, some (.str l), some (.dic kvs), some (tabD C l far), some (.lst ((srt (lotsL (l.drop 1))).map D.str)), y6, some (.str p), y8, some (.str q), y10, y11, y12] st _
          refine asked (i := 6) (d := .bl (crossM l p q)) (dep := 0) (wt := 4) (by show 6 < 13; decide) ((SxD.bl _).mono (Nat.le_refl _) (by decide)) (by decide) (by decide) (by decide) (fun xs => ⟨hR.tabs hU hT, (hR.add xs).tabs hU hT⟩) (fun Q k => ⟨rfl, _, l, far, p, q, rfl, tab_ok hNm hF, pp.1, pq.1, k⟩) (fun Q k => ⟨rfl, _, l, far, p, q, rfl, tab_ok hNm hF, pp.1, pq.1, k⟩) (fun Q k => ⟨rfl, l, p, q, rfl, h7, by have := pp.2; omega, by have := pq.2; omega, pp.1, pq.1, k⟩) ?_
          exact hN3 _ _ ⟨hR.add _, _, _, _, _, _, _, _, rfl⟩
        · rintro ρ st ⟨hR, y1, y6, y8, y9, y10, y11, y12, rfl⟩
          exact ⟨trivial, hN2 _ _ ⟨hR, _, _, _, _, _, _, _, _, rfl⟩⟩
      · rintro ρ st h
        exact ⟨trivial, hN _ _ h⟩
    clear hR y1 y6 y7 y8 y9 y10 y11 y12
    rintro ρ st ⟨hR, y1, y6, y7, y8, y9, y10, y11, y12, rfl⟩
    simp only [sIf, sSeq, sRet, sRetN, sAsg, sSet, sDrop, sNext, sNever, sPar, sFor, sFldD, mNot, mTv, mAnd, mOr, mAndV, mOrV, mNotV, mBin, mUn, mC, mCall, mCons, mNil, mTup, mLst, mLstC, mFn, mFnK, mCallL, mLenO, mLz, mIdx, DL.iZip, DL.iEnS, cSortT, mDic0, mDit0, gSubT, iCbR, cMinT, cMaxT, mIf, mChain, mFld, mIsC, mJoin, mSl, pNo, pSo, mLc, mLcC, mLc2, mLcK, mDc, mDcC, mIsi, mBack, mApp, mPop, mMake, mMeth, mHeard, iSeq, iRng1', iRng2', iEn, iCb, gNm, gTup1, gCons', gNil', gSub', mNm, mYes, startD, wipeD, isB, isI, isS, List.map_cons, List.map_nil, List.length_cons, List.length_nil, List.replicate_succ, List.replicate_zero, List.cons_append, List.nil_append, List.getElem?_cons_zero, List.getElem?_cons_succ, List.set_cons_zero, List.set_cons_succ, Nat.reduceAdd, Nat.reduceSub, if_true, true_and, ix20, ix21, oAdd_ii, oAdd_ss, oAdd_tt, oAdd_ll, oSub_ii, oMul_ii, oDiv_ii, oMod_ii, oPow_ii, oNeg_i, oLt_ii, oLe_ii, oGt_ii, oGe_ii, oEq_ii, oNe_ii, oEq_ss, oNe_ss, cInt_i, cInt_b, cAbs_i, cLen_s, cLen_l, cLen_f, cLen_t, cMin_2, cMax_2, cMax_3, cTuple_l, cTuple_t, cDivmod_ii, cListC_s, items_l, items_t, items_s, Nat.reduceLeDiff]
    refine ⟨by decide, ?_⟩
    rw [er]
    refine forD_rel0 (fun i ρ st => E4 C st0 u l kvs far ρ st) ⟨hR, _, _, _, _, _, _, _, _, rfl⟩ ?_ ?_
    · clear hR y1 y6 y7 y8 y9 y10 y11 y12
      rintro i _ ρ st _ ⟨hR, y1, y6, y7, y8, y9, y10, y11, y12, rfl⟩
      have n1 : (srt (lotsL (l.drop 1))).map D.str ≠ [] := fun z => by
        have := lots_some hNm.2.1
        rw [List.map_eq_nil_iff] at z
        rw [z] at this; cases this
      refine ⟨trivial, fun N2 hN2 => ?_⟩
      refine seq_rel (fun ρ st => RS st0 u st ∧ ∃ p q r, p ∈ srt (lotsL (l.drop 1)) ∧ q ∈ srt (lotsL (l.drop 1)) ∧ r ∈ srt (lotsL (l.drop 1)) ∧ ∃ y1 y6 y7 y9 y10, ρ = [some (.cel u), y1, some (.str l), some (.dic kvs), some (tabD C l far), some (.lst ((srt (lotsL (l.drop 1))).map D.str)), y6, y7, some (.str q), y9, y10, some (.str p), some (.str r)]) ?_ ?_
      rotate_left
      · intro N hN
        simp only [sIf, sSeq, sRet, sRetN, sAsg, sSet, sDrop, sNext, sNever, sPar, sFor, sFldD, mNot, mTv, mAnd, mOr, mAndV, mOrV, mNotV, mBin, mUn, mC, mCall, mCons, mNil, mTup, mLst, mLstC, mFn, mFnK, mCallL, mLenO, mLz, mIdx, DL.iZip, DL.iEnS, cSortT, mDic0, mDit0, gSubT, iCbR, cMinT, cMaxT, mIf, mChain, mFld, mIsC, mJoin, mSl, pNo, pSo, mLc, mLcC, mLc2, mLcK, mDc, mDcC, mIsi, mBack, mApp, mPop, mMake, mMeth, mHeard, iSeq, iRng1', iRng2', iEn, iCb, gNm, gTup1, gCons', gNil', gSub', mNm, mYes, startD, wipeD, isB, isI, isS, List.map_cons, List.map_nil, List.length_cons, List.length_nil, List.replicate_succ, List.replicate_zero, List.cons_append, List.nil_append, List.getElem?_cons_zero, List.getElem?_cons_succ, List.set_cons_zero, List.set_cons_succ, Nat.reduceAdd, Nat.reduceSub, if_true, true_and, ix20, ix21, oAdd_ii, oAdd_ss, oAdd_tt, oAdd_ll, oSub_ii, oMul_ii, oDiv_ii, oMod_ii, oPow_ii, oNeg_i, oLt_ii, oLe_ii, oGt_ii, oGe_ii, oEq_ii, oNe_ii, oEq_ss, oNe_ss, cInt_i, cInt_b, cAbs_i, cLen_s, cLen_l, cLen_f, cLen_t, cMin_2, cMax_2, cMax_3, cTuple_l, cTuple_t, cDivmod_ii, cListC_s, items_l, items_t, items_s, Nat.reduceLeDiff]
        refine ⟨u, _, _, rfl, hR.urn hU, .inr (.inl rfl), n1, by rw [List.length_map]; omega, plL_map _ (fun _ => rfl) _, fun x st1 d1 hx => ?_⟩
        obtain ⟨p, hp, rfl⟩ := List.mem_map.mp hx
        have hR1 := hR.draw hU d1
        refine ⟨u, _, _, rfl, hR1.urn hU, .inr (.inl rfl), n1, by rw [List.length_map]; omega, plL_map _ (fun _ => rfl) _, fun x st2 d2 hx => ?_⟩
        obtain ⟨q, hq, rfl⟩ := List.mem_map.mp hx
        have hR2 := hR1.draw hU d2
        refine ⟨u, _, _, rfl, hR2.urn hU, .inr (.inl rfl), n1, by rw [List.length_map]; omega, plL_map _ (fun _ => rfl) _, fun x st3 d3 hx => ?_⟩
        obtain ⟨r, hr, rfl⟩ := List.mem_map.mp hx
        refine ⟨rfl, ?_⟩
        exact hN _ _ ⟨hR2.draw hU d3, p, q, r, hp, hq, hr, _, _, _, _, _, rfl⟩
      clear hR y1 y6 y7 y8 y9 y10 y11 y12
      rintro ρ st ⟨hR, p, q, r, hp, hq, hr, y1, y6, y7, y9, y10, rfl⟩
      have pp := part p hp
      have pq := part q hq
      have pr := part r hr
      refine asked (i := 6) (d := .bl (clashM l [p, q, r])) (dep := 0) (wt := 4) (by show 6 < 13; decide) ((SxD.bl _).mono (Nat.le_refl _) (by decide)) (by decide) (by decide) (by decide) (fun xs => ⟨hR.tabs hU hT, (hR.add xs).tabs hU hT⟩) (fun Q k => ⟨rfl, _, l, far, p, q, r, rfl, tab_ok hNm hF, pp.1, pq.1, pr.1, k⟩) (fun Q k => ⟨rfl, _, l, far, p, q, r, rfl, tab_ok hNm hF, pp.1, pq.1, pr.1, k⟩) (fun Q k => ⟨by show 3 ≤ 1000000; decide, rfl, l, p, q, r, rfl, h7, hNm.1, by have := pp.2; omega, by have := pq.2; omega, by have := pr.2; omega, k⟩) ?_
      exact hN2 _ _ ⟨hR.add _, _, _, _, _, _, _, _, _, rfl⟩
    · rintro ρ st ⟨hR, y1, y6, y7, y8, y9, y10, y11, y12, rfl⟩
      exact ⟨trivial, hN _ _ ⟨hR, _, _, _, _, _, _, _, _, _, _, _, _, rfl⟩⟩
  · rintro ρ st ⟨hR, y1, y2, y3, y4, y5, y6, y7, y8, y9, y10, y11, y12, rfl⟩
    exact ⟨trivial, hR.exit rfl k⟩
end
end K20d
set_option Elab.async false
set_option linter.all false
set_option maxRecDepth 100000
set_option maxHeartbeats 4000000
namespace Wk
open PySem PySem.Spec PyProof.Rows L2 Nf DL Hd
section
/-- a def of the top, found by its name -/
def DefAt (K : PySem.W.Frag) (mg : Str → Option Value) (x : Str) (st : Stmt) : Prop := ∃ f fd, mg x = some (.ref f) ∧ Fun K x x st f fd
theorem def_mk {K : PySem.W.Frag} {h : Heap} {mg : Str → Option Value} {x : Str} {st : Stmt} {f : Addr} {oc : Value} {od an : Option Addr} {osl : Array (Option Value)} {kV doc pm cdv ct : Value} (X : K.In h) (G : h.Ns mainGlobals mg) (a : PySem.W.nsIn K mainGlobals x = some (some (.ref f)))
    (l : K.lookup f = some ⟨oc, od, .func (PySem.W.fnOf x x (defArgs st) (defBody st) (defScope st) .none kV doc pm an cdv ct), osl⟩) (c : PySem.W.codeIn K cdv x = true) (k : PySem.W.keepIn K (.ref f) = true) : DefAt K mg x st := ⟨f, _, PySem.W.mg_of X G a, fun_mk (st := st) l c k⟩
def DefC (K : PySem.W.Frag) (mg : Str → Option Value) (x : Str) (st : Stmt) (c : Addr) : Prop := ∃ f fd, mg x = some (.ref f) ∧ FunC K x st f fd c
theorem defC_mk {K : PySem.W.Frag} {h : Heap} {mg : Str → Option Value} {x : Str} {st : Stmt} {f cc : Addr} {oc : Value} {od an : Option Addr} {osl : Array (Option Value)} {kV doc pm ct : Value} (X : K.In h) (G : h.Ns mainGlobals mg) (a : PySem.W.nsIn K mainGlobals x = some (some (.ref f)))
    (l : K.lookup f = some ⟨oc, od, .func (PySem.W.fnOf x x (defArgs st) (defBody st) (defScope st) .none kV doc pm an (.ref cc) ct), osl⟩) (c : PySem.W.codeIn K (.ref cc) x = true) (k : PySem.W.keepIn K (.ref f) = true) : DefC K mg x st cc := ⟨f, _, PySem.W.mg_of X G a, ⟨_, _, _, _, _, _, _, _, rfl, l, c⟩, k⟩
/-- the init of a class -/
def InitAt (K : PySem.W.Frag) (C : Addr) (q : Str) (st : Stmt) : Prop := ∃ f fd, Mk K C f ∧ Fun K "__init__" q st f fd
theorem init_mk {K : PySem.W.Frag} {C f : Addr} {q : Str} {st : Stmt} {oc : Value} {od an : Option Addr} {osl : Array (Option Value)} {kV doc pm cdv ct : Value} (mk : PySem.W.makesIn K C = true) (a : PySem.W.findIn K (.ref C) "__init__" = some (some (.ref f))) (i : PySem.W.isFn K (.ref f) = true) (kc : PySem.W.keepIn K (.ref C) = true)
    (l : K.lookup f = some ⟨oc, od, .func (PySem.W.fnOf "__init__" q (defArgs st) (defBody st) (defScope st) .none kV doc pm an cdv ct), osl⟩) (c : PySem.W.codeIn K cdv q = true) (k : PySem.W.keepIn K (.ref f) = true) : InitAt K C q st := ⟨f, _, ⟨mk, a, i, kc⟩, fun_mk (st := st) l c k⟩
/-- a method -/
def MethAt (K : PySem.W.Frag) (C : Addr) (m q : Str) (st : Stmt) : Prop := ∃ f fd, Meth K C m f ∧ Fun K m q st f fd
theorem meth_mk {K : PySem.W.Frag} {C f : Addr} {m q : Str} {st : Stmt} {oc : Value} {od an : Option Addr} {osl : Array (Option Value)} {kV doc pm cdv ct : Value} (a : PySem.W.findIn K (.ref C) m = some (some (.ref f))) (i : PySem.W.isFn K (.ref f) = true)
    (l : K.lookup f = some ⟨oc, od, .func (PySem.W.fnOf m q (defArgs st) (defBody st) (defScope st) .none kV doc pm an cdv ct), osl⟩) (c : PySem.W.codeIn K cdv q = true) (k : PySem.W.keepIn K (.ref f) = true) : MethAt K C m q st := ⟨f, _, ⟨a, i, k⟩, fun_mk (st := st) l c k⟩
/-- a property -/
def PropAt (K : PySem.W.Frag) (C : Addr) (m q : Str) (st : Stmt) : Prop := ∃ p g fd, PropOf K C m p g ∧ Fun K m q st g fd
theorem prop_mk {K : PySem.W.Frag} {C p g : Addr} {m q : Str} {st : Stmt} {rest : List Value} {oc : Value} {od an : Option Addr} {osl : Array (Option Value)} {kV doc pm cdv ct : Value} (a : PySem.W.findIn K (.ref C) m = some (some (.ref p))) (b : PySem.W.specialIn K (.ref p) "__get__" = some (some (.builtin "property.__get__"))) (t : PySem.W.takesIn K (.ref p) = some true) (r : PySem.W.recIn K p "property" = some (.ref g :: rest))
    (l : K.lookup g = some ⟨oc, od, .func (PySem.W.fnOf m q (defArgs st) (defBody st) (defScope st) .none kV doc pm an cdv ct), osl⟩) (c : PySem.W.codeIn K cdv q = true) (k : PySem.W.keepIn K (.ref g) = true) : PropAt K C m q st := ⟨p, g, _, ⟨a, b, t, ⟨rest, r⟩⟩, fun_mk (st := st) l c k⟩
variable {P : Program} {w : World} {K : PySem.W.Frag} {mg : Str → Option Value} {base : Heap} {C : Addr}
theorem can_of {x : Str} {st : Stmt} {ps : List Str} {k : Nat} {sp : Sp} (D : DefAt K mg x st) (hb : ∀ (kV doc pm : Value) (an : Option Addr) (cdv ct : Value) (us : List Value), us.length = ps.length → bindArgs (PySem.W.fnOf x x (defArgs st) (defBody st) (defScope st) .none kV doc pm an cdv ct) ⟨us, []⟩ = pure (ps.zip us))
    (ok : ∀ f fd, Fun K x x st f fd → FnOk P w K mg base CX0 k f fd ps sp) : Can P w K mg base k x st ps sp := by
  obtain ⟨f, fd, hm, F⟩ := D
  exact ⟨f, fd, hm, F, F.binds hb, ok f fd F⟩
end
section
/-! ### what stands where, read off the written part -/
def fAt (K : PySem.W.Frag) (x : Str) : Addr := match PySem.W.nsIn K mainGlobals x with | some (some (.ref f)) => f | _ => 0
def tAt (K : PySem.W.Frag) (x : Str) : Tok := match PySem.W.nsIn K mainGlobals x with | some (some (.str _ t)) => t | some (some (.int _ t)) => t | _ => default
def oAt (K : PySem.W.Frag) (f : Addr) : Obj := (K.lookup f).getD default
def dAt (K : PySem.W.Frag) (f : Addr) : FuncData := match (oAt K f).data with | .func fd => fd | _ => default
def cAt (K : PySem.W.Frag) (f : Addr) : Addr := match (dAt K f).code with | .ref c => c | _ => 0
def mAt (K : PySem.W.Frag) (C : Addr) (x : Str) : Addr := match PySem.W.findIn K (.ref C) x with | some (some (.ref f)) => f | _ => 0
def gAt2 (K : PySem.W.Frag) (p : Addr) : Addr := match PySem.W.recIn K p "property" with | some (.ref g :: _) => g | _ => 0
def rAt (K : PySem.W.Frag) (p : Addr) : List Value := match PySem.W.recIn K p "property" with | some (_ :: r) => r | _ => []
/-- the object of a def, told by what it must be -/
def fnO (K : PySem.W.Frag) (x q : Str) (st : Stmt) (f : Addr) (cd : Value) : Obj := ⟨(oAt K f).cls, (oAt K f).dict, .func (PySem.W.fnOf x q (defArgs st) (defBody st) (defScope st) .none (dAt K f).kwdefaults (dAt K f).doc (dAt K f).pyModule (dAt K f).annotations cd (dAt K f).closureTuple), (oAt K f).slots⟩
variable {K : PySem.W.Frag} {h : Heap} {mg : Str → Option Value}
theorem def_at {x : Str} {st : Stmt} (X : K.In h) (G : h.Ns mainGlobals mg) (e1 : PySem.W.nsIn K mainGlobals x = some (some (.ref (fAt K x)))) (e2 : K.lookup (fAt K x) = some (fnO K x x st (fAt K x) (dAt K (fAt K x)).code)) (e3 : PySem.W.codeIn K (dAt K (fAt K x)).code x = true) (e4 : PySem.W.keepIn K (.ref (fAt K x)) = true) : DefAt K mg x st := def_mk X G e1 e2 e3 e4
theorem defC_at {x : Str} {st : Stmt} (X : K.In h) (G : h.Ns mainGlobals mg) (e1 : PySem.W.nsIn K mainGlobals x = some (some (.ref (fAt K x)))) (e2 : K.lookup (fAt K x) = some (fnO K x x st (fAt K x) (.ref (cAt K (fAt K x))))) (e3 : PySem.W.codeIn K (.ref (cAt K (fAt K x))) x = true) (e4 : PySem.W.keepIn K (.ref (fAt K x)) = true) : DefC K mg x st (cAt K (fAt K x)) := defC_mk X G e1 e2 e3 e4
theorem init_at {C : Addr} {q : Str} {st : Stmt} (mk : PySem.W.makesIn K C = true) (a : PySem.W.findIn K (.ref C) "__init__" = some (some (.ref (mAt K C "__init__")))) (i : PySem.W.isFn K (.ref (mAt K C "__init__")) = true) (kc : PySem.W.keepIn K (.ref C) = true)
    (l : K.lookup (mAt K C "__init__") = some (fnO K "__init__" q st (mAt K C "__init__") (dAt K (mAt K C "__init__")).code)) (c : PySem.W.codeIn K (dAt K (mAt K C "__init__")).code q = true) (k : PySem.W.keepIn K (.ref (mAt K C "__init__")) = true) : InitAt K C q st := init_mk mk a i kc l c k
theorem meth_at {C : Addr} {m q : Str} {st : Stmt} (a : PySem.W.findIn K (.ref C) m = some (some (.ref (mAt K C m)))) (i : PySem.W.isFn K (.ref (mAt K C m)) = true)
    (l : K.lookup (mAt K C m) = some (fnO K m q st (mAt K C m) (dAt K (mAt K C m)).code)) (c : PySem.W.codeIn K (dAt K (mAt K C m)).code q = true) (k : PySem.W.keepIn K (.ref (mAt K C m)) = true) : MethAt K C m q st := meth_mk a i l c k
theorem prop_at {C : Addr} {m q : Str} {st : Stmt} (a : PySem.W.findIn K (.ref C) m = some (some (.ref (mAt K C m)))) (b : PySem.W.specialIn K (.ref (mAt K C m)) "__get__" = some (some (.builtin "property.__get__"))) (t : PySem.W.takesIn K (.ref (mAt K C m)) = some true) (r : PySem.W.recIn K (mAt K C m) "property" = some (.ref (gAt2 K (mAt K C m)) :: rAt K (mAt K C m)))
    (l : K.lookup (gAt2 K (mAt K C m)) = some (fnO K m q st (gAt2 K (mAt K C m)) (dAt K (gAt2 K (mAt K C m))).code)) (c : PySem.W.codeIn K (dAt K (gAt2 K (mAt K C m))).code q = true) (k : PySem.W.keepIn K (.ref (gAt2 K (mAt K C m))) = true) : PropAt K C m q st := prop_mk a b t r l c k
end
section
/-! ### the law is called by the claim: one table, nothing being shown -/
variable {P : Program} {w : World} {K : PySem.W.Frag} {mg mb : Str → Option Value} {k : Nat} {fa a c Tp : Addr} {fd : FuncData} {x : Str} {sp : Sp} {s₁ : Shared} {vs : List Value} {ns : List Int}
/-- what the claim's heap tracks: the table, and the script unless it is of the written part -/
def H₁ (K : PySem.W.Frag) (a Tp : Addr) (vs : List Value) (ns : List Int) : Hp := fun b =>
  if b = Tp then some (.tbl #[]) else if (b = a ∧ (K.lookup a).isNone = true) then some (.frz { cls := .type "list", data := .seq vs.toArray } (.lst (ns.map V.int))) else none
theorem H₁_tab : H₁ K a Tp vs ns Tp = some (.tbl #[]) := if_pos rfl
theorem H₁_off {b : Addr} (h1 : b ≠ Tp) (h2 : b ≠ a) : H₁ K a Tp vs ns b = none := by
  unfold H₁
  rw [if_neg h1, if_neg fun z => h2 z.1]
theorem law_callG (KX : K.In s₁.heap) (hns : s₁.heap.Ns mainGlobals mg) (hb : s₁.heap.Ns builtinsNs mb) (hbb : ∀ y : Str, y ≠ "__name__" → mb y = bootBuiltins y) (hlim : s₁.heap.NoLimit) (hgen : s₁.gens = #[])
    (hT : s₁.heap.get? Tp = some { cls := .none, data := .fields #[] }) (nT : K.lookup Tp = none) (HC : PySem.W.CodeHd s₁.heap c Tp)
    (hbm : ∃ (bm : Addr) (ob : Obj), mg "__builtins__" = some (.ref bm) ∧ bm ≠ builtinsNs ∧ s₁.heap.get? bm = some ob ∧ ob.cls = .type "module" ∧ ob.dict = some builtinsNs ∧ ob.data = .plain)
    (ha : s₁.heap.get? a = some { cls := .type "list", data := .seq vs.toArray }) (hi : IntsAre vs ns) (hl : ns.length ≤ sizeLine) (hr : Room k callerA)
    (F : ∀ bh : Heap, K.In bh → bh.Ns mainGlobals mg → LamX.TabB bh mg c Tp → FnOkG P w K mg bh k fa fd [x] sp) (hbind : ∀ (s : Shared) (u : Value), BindsTo s fd ⟨[u], []⟩ [(x, u)])
    (hsp : ∀ H : Hp, H Tp = some (.tbl #[]) → SqL K H a (ns.map V.int) → sp [.ref a] H (fun v _ => v = .bl true) E0) :
    codeAny (model P w) callerA (.call (.ref fa) ⟨[.ref a], []⟩) (fun r s' => r = .ok (.ret (.bool true)) ∧ OldK s₁.heap s'.heap ∧ s'.os = s₁.os ∧ AllBare s'.gens) s₁ := by
  have rv := vals_ints hi
  have zl : ns.length = vs.length := hi.length.symm
  have aT : a ≠ Tp := fun z => by
    rw [z, hT] at ha
    cases congrArg Obj.data (Option.some.inj ha)
  -- places of other kinds of data are not tracked
  have off : ∀ {b : Addr} {o : Obj}, s₁.heap.get? b = some o → o.data ≠ .fields #[] → (∀ q m, o.data ≠ .seq q m) → H₁ K a Tp vs ns b = none := fun {b o} hg h1 h2 => by
    refine H₁_off (fun z => ?_) (fun z => ?_)
    · rw [z, hT] at hg; cases hg; exact h1 rfl
    · rw [z, ha] at hg; cases hg; exact h2 _ _ rfl
  have keepsNs : ∀ {b : Addr} {m : Str → Option Value}, s₁.heap.Ns b m → (hidT s₁.heap (H₁ K a Tp vs ns)).Ns b m := fun {b m} n => by
    obtain ⟨o, es, ep, hg, hd, rest⟩ := n
    exact ⟨o, es, ep, hidT_get hg (off hg (fun z => by rw [hd] at z; cases z) (fun q m z => by rw [hd] at z; cases z)), hd, rest⟩
  have inK : K.In (hidT s₁.heap (H₁ K a Tp vs ns)) := fun b o hk => by
    refine hidT_get (KX b o hk) ?_
    have h1 : b ≠ Tp := fun z => by rw [z, nT] at hk; cases hk
    unfold H₁
    rw [if_neg h1, if_neg]
    rintro ⟨z, q⟩
    rw [← z, hk] at q
    cases q
  have modH : L2.Mod K mg (hidT s₁.heap (H₁ K a Tp vs ns)) := ⟨inK, keepsNs hns, ⟨mb, keepsNs hb, hbb⟩, by obtain ⟨mc, n1, n2⟩ := hlim; exact ⟨mc, keepsNs n1, n2⟩⟩
  have notG : ∀ {b : Addr} {o : Obj}, s₁.heap.get? b = some o → (∀ es ep, o.data ≠ .dict es ep) → b ≠ mainGlobals := fun {b o} hg h z => by
    obtain ⟨o2, es, ep, g2, d2, _⟩ := hns
    rw [z, g2] at hg
    cases hg
    exact h _ _ d2
  have tabH : LamX.TabB (hidT s₁.heap (H₁ K a Tp vs ns)) mg c Tp := by
    refine ⟨?_, ?_, fun z => notG hT (fun es ep q => by cases q) z.symm⟩
    · obtain ⟨o, us, file, tf, flags, tg, inF, text, tt, g1, c1, d1, more⟩ := HC
      refine ⟨o, us, file, tf, flags, tg, inF, text, tt, hidT_get g1 (off g1 (fun z => ?_) (fun q m z => by rw [d1] at z; cases z)), c1, d1, more⟩
      rw [d1] at z
      cases z
      exact absurd more.1 (by simp)
    · obtain ⟨bm, ob, m1, m2, m3, m4, m5, m6⟩ := hbm
      have dP : ∀ es ep, ob.data ≠ .dict es ep := fun es ep z => by rw [m6] at z; cases z
      have nP : bm ≠ Tp := fun z => by rw [z, hT] at m3; cases m3; cases m6
      exact ⟨bm, ob, m1, m2, notG m3 dP, nP, hidT_get m3 (off m3 (fun z => by rw [m6] at z; cases z) (fun q m z => by rw [m6] at z; cases z)), m4, m5, m6⟩
  have hokH : HOk P w (H₁ K a Tp vs ns) s₁.heap := fun b u hu => by
    unfold H₁ at hu
    by_cases h1 : b = Tp
    · rw [if_pos h1] at hu
      cases hu
      rw [h1]
      exact hT
    · rw [if_neg h1] at hu
      by_cases h2 : b = a ∧ (K.lookup a).isNone = true
      · rw [if_pos h2] at hu
        cases hu
        rw [h2.1]
        exact ⟨ha, by rw [List.length_map]; exact hl, vs, _, rv, ha⟩
      · rw [if_neg h2] at hu
        cases hu
  have seqH : SqL K (H₁ K a Tp vs ns) a (ns.map V.int) := by
    cases hk : K.lookup a with
    | none => exact .inl (.inr ⟨_, by unfold H₁; rw [if_neg aT, if_pos ⟨rfl, by rw [hk]; rfl⟩]⟩)
    | some o =>
      have g := KX a o hk
      rw [ha] at g
      cases g
      exact .inr ⟨_, vs.toArray, _, hk, rfl, rfl, rfl, by rw [List.size_toArray, ← zl]; exact hl, by simpa using rv⟩
  have env : Env0 P w K mg (hidT s₁.heap (H₁ K a Tp vs ns)) callerA [] s₁ (H₁ K a Tp vs ns) :=
    ⟨rfl, modH, fun b o g => of_hidT g, Nat.le_of_eq (hidT_size _ _), trivial, (fun b z => nomatch z), hokH, .of_eq hgen⟩
  have go := (F _ inK (keepsNs hns) tabH).run callerA [] s₁ _ ⟨[.ref a], []⟩ [.ref a] [.ref a] _ _ hr rfl env (hbind s₁ (.ref a)) (.cons rfl .nil) (hsp _ H₁_tab seqH)
  refine codeAny_mono go fun r s' res => ?_
  match r, res with
  | .error _, res => exact (show False from res).elim
  | .ok .next, res => exact (show False from res).elim
  | .ok .brk, res => exact (show False from res).elim
  | .ok .cont, res => exact (show False from res).elim
  | .ok (.ret u), res =>
    obtain ⟨v, H', osE, bareE, un, hok', rel, qv⟩ := res
    have qv : v = V.bl true := qv
    subst qv
    obtain rfl : u = Value.bool true := rel
    obtain ⟨grew, hgr⟩ := un.tbls Tp #[] H₁_tab
    have tabE : s'.heap.get? Tp = some { cls := .none, data := .fields (#[] ++ grew) } := hok' Tp _ hgr
    have same : ∀ b o, b ≠ Tp → s₁.heap.get? b = some o → s'.heap.get? b = some o := fun b o nb hg => by
      by_cases h2 : b = a ∧ (K.lookup a).isNone = true
      · have hfz : H₁ K a Tp vs ns b = some (.frz { cls := .type "list", data := .seq vs.toArray } (.lst (ns.map V.int))) := by unfold H₁; rw [if_neg nb, if_pos h2]
        have z1 := (hok' b _ (un.frzs b _ _ hfz)).1
        have z0 := (hokH b _ hfz).1
        rw [hg] at z0
        cases z0
        exact z1
      · have hno : H₁ K a Tp vs ns b = none := by unfold H₁; rw [if_neg nb, if_neg h2]
        exact un.keep b o hg hno (fun z => nomatch z) (fun z => nomatch z)
    refine ⟨rfl, ⟨fun b o hg => ?_, fun b o hg => ?_⟩, osE, bareE⟩
    · by_cases hbT : b = Tp
      · rw [hbT] at hg ⊢
        rw [hT] at hg
        cases hg
        exact .inr (.inl ⟨(HC.tab hT).isCodeTable, rfl, #[], grew, rfl, tabE⟩)
      · exact .inl (same b o hbT hg)
    · by_cases hbT : b = Tp
      · rw [hbT]; exact ⟨_, tabE⟩
      · exact ⟨o, same b o hbT hg⟩
/-! ### the walk -/
def S_law (T : List (Addr × Str)) : MC := fun st ds Q => ∃ ns : List Int, ds = [.frl (ns.map D.int)] ∧ ns.length ≤ 1000 ∧ TabsIn T st ∧ Q (.bl true) st
theorem sp_of {K : PySem.W.Frag} {H : Hp} {a Tp : Addr} {q : Str} {ns : List Int} (hH : H Tp = some (.tbl #[])) (hS : SqL K H a (ns.map V.int)) (hn : ns.length ≤ 1000) : spD K 1 (S_law [(Tp, q)]) [.ref a] H (fun v _ => v = .bl true) E0 := by
  refine ⟨rfl, ⟨[Tp], [], []⟩, [.tab Tp q], [.frl (ns.map D.int)], fun d _ => d = .bl true, .cons ?_ .nil, ?_, ⟨ns, rfl, hn, ⟨?_, ?_⟩, rfl⟩, ?_⟩
  · have ri : ∀ ms : List Int, RpL K H ⟨[Tp], [], []⟩ (ms.map D.int) (ms.map V.int) := fun ms => by
      induction ms with
      | nil => exact .nil
      | cons m ms ih => exact .cons (by simp only [Rp]) ih
    have ne : ∀ o : HO, H a = some o → o ≠ .tbl #[] → (⟨[Tp], [], []⟩ : Mu).off a := fun o ho hne => ⟨fun z => by
      rw [List.mem_singleton.mp z, hH] at ho
      exact hne (Option.some.inj ho).symm, fun z => nomatch z⟩
    simp only [Rp]
    refine ⟨a, ns.map V.int, rfl, ?_, ri ns⟩
    rcases hS with (h | ⟨o, h⟩) | h
    · exact .inl ⟨ne _ h (fun z => nomatch z), .inl h⟩
    · exact .inl ⟨ne _ h (fun z => nomatch z), .inr ⟨o, h⟩⟩
    · obtain ⟨o, its, m, h1, h2, h3, h4, h5, h6⟩ := h
      exact .inr ⟨o, its, m, h1, h2, h3, h4, h5, h6⟩
  · refine ⟨rfl, by simp, fun m b cc h1 h2 => ?_, (fun b hb => nomatch hb), rfl⟩
    cases m with
    | zero =>
      cases h1; cases h2
      exact ⟨rfl, #[], hH, trivial, fun pos cv h => nomatch h⟩
    | succ m => cases h1
  · intro n P q' h
    cases n with
    | zero => cases h; exact List.mem_singleton.mpr rfl
    | succ n => cases h
  · intro p hp
    rw [List.mem_singleton.mp hp]
    exact ⟨0, rfl⟩
  · intro d st v μ' H' e r s g
    subst e
    simp only [Rp] at r
    exact r
theorem walk_G {l : PySem.W.OpenLaw} {n k : Nat} {q : Program} {loose : List Str} {XP : (Str → Option Value) → Heap → Prop} {YP : World → Heap → Prop} {d : DefRec} {K : Params → PySem.W.Frag} {Tp : Addr} {lq : Str} (hn : l.most = some n) (hn2 : n ≤ 1000) (hdf : d.params.defaults = []) (hdn : d.name = "law") (hr : Room k callerA)
    (hY : ∀ (w : World) (h : Heap), YP w h → (K w.params).In h ∧ h.get? Tp = some { cls := .none, data := .fields #[] })
    (F : ∀ (w : World) (mg : Str → Option Value) (h : Heap), (K w.params).In h → h.Ns mainGlobals mg → ∃ c f fd, PySem.W.codeHdIn (K w.params) c Tp = true ∧ (K w.params).lookup Tp = none ∧ mg "law" = some (.ref f) ∧ (∀ (s : Shared) (u : Value), BindsTo s fd ⟨[u], []⟩ [("_law_script", u)]) ∧
      ∀ (P : Program) (bh : Heap), LamX.TabB bh mg c Tp → FnOkG P w (K w.params) mg bh k f fd ["_law_script"] (spD (K w.params) 1 (S_law [(Tp, lq)]))) :
    PySem.W.WalkO q loose XP YP l.row.toRowW d [] (fun f vs => PySem.call f vs) := by
  refine Att.attach_callB hn hdf fun w s₀ s₁ mg mb fa o pm cd doc a vs ns G Y ho hd hcd hmg hobj hints hlen hbits hg => ?_
  obtain ⟨KX, hT⟩ := hY w _ Y
  obtain ⟨c, f, fd, hcode, nT, hm, hb, ok⟩ := F w mg _ KX G.T.g
  rw [hdn, hm] at hmg
  have hf := Option.some.inj hmg
  cases hf
  have z : sizeLine = 16777216 := sizeLine_eq
  exact law_callG (K := K w.params) (c := c) (Tp := Tp) (x := "_law_script") (sp := spD (K w.params) 1 (S_law [(Tp, lq)])) KX G.T.g G.T.b G.T.builtins G.T.nolimit hg hT nT (PySem.W.codeHd_of_K KX hcode) G.T.bmain hobj hints (by omega) hr (fun bh _ _ TB => ok _ bh TB) hb fun H hH hS => sp_of hH hS (by omega)
end
end Wk
set_option Elab.async false
set_option linter.all false
set_option maxRecDepth 100000
set_option maxHeartbeats 4000000
namespace K20d
open PySem PySem.Spec PyProof.Rows L2 Nf DL Pd Nd Ld Cd Hd Ke Wk
section
variable {P : Program} {w : World} {K : PySem.W.Frag} {mg : Str → Option Value} {base : Heap} {C : Addr} {f : Addr} {fd : FuncData}
theorem tabs_ext {T : List (Addr × Str)} {st ex : Store} (t : TabsIn T st) (n : NoTab ex) : TabsIn T (st ++ ex) := by
  refine ⟨fun i P q hi => ?_, fun p hp => let ⟨i, hi⟩ := t.2 p hp; ⟨i, ext_at hi⟩⟩
  by_cases hl : i < st.length
  · rw [List.getElem?_append_left hl] at hi
    exact t.1 i P q hi
  · rw [List.getElem?_append_right (by omega)] at hi
    exact absurd rfl (n _ (List.mem_of_getElem? hi) P q)
theorem ok_law {Tp : Addr} (F : Fun K "law" "law" s_law f fd) (T : Txt K mg C) (C_law_right : CanG P w K mg base 8 "_law_right" ["_law_urn_here"] (S_law_right [(Tp, lamQ)])) (C_law_urn : CanD P w K mg base 1 "_law_urn" s_law_urn ["_law_cells", "_law_turn"] S_law_urn) : FnOkG P w K mg base 9 f fd ["_law_script"] (spD K 1 (S_law [(Tp, lamQ)])) := by
  refine fnGF F sc_law (fun cdv A outer s H E hr hgd => (dss_one (ds_ret (de_callB (dc_all (K := K) rfl) T.all (da_cons (de_lc (own := [("_law_turn", 1)]) rfl sc_law.nd (di_range1 T.range (de_callB (dc_max (K := K) rfl) T.max (da_cons de_int (da_cons (de_callB (dc_min (K := K) rfl) T.min (da_cons (de_callB (dc_len (K := K)) T.len (da_cons (dv 0) da_nil)) (da_cons de_int da_nil))) da_nil)))) (blkOk_by (own := [("_law_turn", 1)]) (N := N_law) (sc := defScope s_law) (by decide +kernel)) (tof_nm (i := 1)) (fun _ _ _ _ _ => (pg_name (i := 1) sc_law.nd rfl (Or.inl rfl) (Or.inr rfl))) (fun _ _ _ _ _ => dts_nil) (fun _ _ _ _ _ => (de_fnG C_law_right (hr.mono (by decide)) hgd (da_cons (de_fn C_law_urn (hr.mono (by decide)) (da_cons (dv 0) (da_cons (dv 1) da_nil))) da_nil)))) da_nil))))) ?_
  rintro st0 ds Qd _ ⟨ns, rfl, hn, hT, k⟩
  simp only [sIf, sSeq, sRet, sRetN, sAsg, sSet, sDrop, sNext, sNever, sPar, sFor, sFldD, mNot, mTv, mAnd, mOr, mAndV, mOrV, mNotV, mBin, mUn, mC, mCall, mCons, mNil, mTup, mLst, mLstC, mFn, mFnK, mCallL, mLenO, mLz, mIdx, DL.iZip, DL.iEnS, cSortT, mDic0, mDit0, gSubT, iCbR, cMinT, cMaxT, mIf, mChain, mFld, mIsC, mJoin, mSl, pNo, pSo, mLc, mLcC, mLc2, mLcK, mDc, mDcC, mIsi, mBack, mApp, mPop, mMake, mMeth, mHeard, iSeq, iRng1', iRng2', iEn, iCb, gNm, gTup1, gCons', gNil', gSub', mNm, mYes, startD, wipeD, isB, isI, isS, List.map_cons, List.map_nil, List.length_cons, List.length_nil, List.replicate_succ, List.replicate_zero, List.cons_append, List.nil_append, List.getElem?_cons_zero, List.getElem?_cons_succ, List.set_cons_zero, List.set_cons_succ, Nat.reduceAdd, Nat.reduceSub, if_true, true_and, ix20, ix21, oAdd_ii, oAdd_ss, oAdd_tt, oAdd_ll, oSub_ii, oMul_ii, oDiv_ii, oMod_ii, oPow_ii, oNeg_i, oLt_ii, oLe_ii, oGt_ii, oGe_ii, oEq_ii, oNe_ii, oEq_ss, oNe_ss, cInt_i, cInt_b, cAbs_i, cLen_s, cLen_l, cLen_f, cLen_t, cMin_2, cMax_2, cMax_3, cTuple_l, cTuple_t, cDivmod_ii, cListC_s, items_l, items_t, items_s, Nat.reduceLeDiff]
  have el : (ns.map D.int).length = ns.length := List.length_map _
  obtain ⟨m, hm, em⟩ : ∃ m : Nat, m ≤ 5 ∧ mx 2 (mn ((ns.map D.int).length : Int) 5) = (m : Int) := by
    rw [el]
    refine ⟨(mx 2 (mn (ns.length : Int) 5)).toNat, ?_, ?_⟩ <;> unfold mx mn <;> (repeat' split) <;> omega
  have er : ∀ n : Nat, rngD 0 n = (List.range n).map fun (i : Nat) => D.int (i : Int) := fun n => by
    unfold rngD; exact List.map_congr_left fun i _ => by rw [Int.zero_add]
  rw [em, Int.toNat_natCast, er]
  refine ⟨⟨by omega, by omega⟩, by rw [List.length_map, List.length_range]; omega, ?_⟩
  refine lcD_rel0 (fun j ys st => ∃ ex, st = st0 ++ ex ∧ NoTab ex ∧ ys = (List.replicate j true).map D.bl) ⟨[], by simp, (fun c hc => nomatch hc), rfl⟩ ?_ ?_
  · rintro j _ ys st hj ⟨ex, rfl, hex, rfl⟩
    refine ⟨trivial, fun K1 K0 hK1 hK0 => ?_⟩
    simp only [sIf, sSeq, sRet, sRetN, sAsg, sSet, sDrop, sNext, sNever, sPar, sFor, sFldD, mNot, mTv, mAnd, mOr, mAndV, mOrV, mNotV, mBin, mUn, mC, mCall, mCons, mNil, mTup, mLst, mLstC, mFn, mFnK, mCallL, mLenO, mLz, mIdx, DL.iZip, DL.iEnS, cSortT, mDic0, mDit0, gSubT, iCbR, cMinT, cMaxT, mIf, mChain, mFld, mIsC, mJoin, mSl, pNo, pSo, mLc, mLcC, mLc2, mLcK, mDc, mDcC, mIsi, mBack, mApp, mPop, mMake, mMeth, mHeard, iSeq, iRng1', iRng2', iEn, iCb, gNm, gTup1, gCons', gNil', gSub', mNm, mYes, startD, wipeD, isB, isI, isS, List.map_cons, List.map_nil, List.length_cons, List.length_nil, List.replicate_succ, List.replicate_zero, List.cons_append, List.nil_append, List.getElem?_cons_zero, List.getElem?_cons_succ, List.set_cons_zero, List.set_cons_succ, Nat.reduceAdd, Nat.reduceSub, if_true, true_and, ix20, ix21, oAdd_ii, oAdd_ss, oAdd_tt, oAdd_ll, oSub_ii, oMul_ii, oDiv_ii, oMod_ii, oPow_ii, oNeg_i, oLt_ii, oLe_ii, oGt_ii, oGe_ii, oEq_ii, oNe_ii, oEq_ss, oNe_ss, cInt_i, cInt_b, cAbs_i, cLen_s, cLen_l, cLen_f, cLen_t, cMin_2, cMax_2, cMax_3, cTuple_l, cTuple_t, cDivmod_ii, cListC_s, items_l, items_t, items_s, Nat.reduceLeDiff]
    refine ⟨ns, _, rfl, by omega, fun a b ha hb => ?_⟩
    have hU : urnAt (st0 ++ ex ++ [.lst [.int a, .int b]]) (st0 ++ ex).length := ⟨a, b, last_at _ _, ha, hb⟩
    have n1 : NoTab [Cell.lst [D.int a, D.int b]] := fun c hc P q e => by rw [List.mem_singleton.mp hc] at e; cases e
    refine ⟨_, rfl, hU, tabs_ext (tabs_ext hT hex) n1, fun st' dr => ?_⟩
    obtain ⟨a', b', h1, h2, rfl⟩ := dr
    refine hK1 _ _ ⟨ex ++ [.lst [.int a', .int b']], ?_, fun c hc P q e => ?_, by rw [List.replicate_succ', List.map_append]; rfl⟩
    · rw [set_last, List.append_assoc]
    · rcases List.mem_append.mp hc with hc | hc
      · exact hex c hc P q e
      · rw [List.mem_singleton.mp hc] at e; cases e
  · rintro ys st ⟨ex, rfl, hex, rfl⟩
    refine ⟨trivial, ?_⟩
    refine ⟨List.replicate (List.range m).length true, rfl, ?_⟩
    have : (List.replicate (List.range m).length true).all id = true := by rw [List.all_eq_true]; intro y hy; rw [List.eq_of_mem_replicate hy]; rfl
    rw [this]
    exact exit_plx ex rfl k
end
end K20d
set_option Elab.async false
set_option linter.all false
set_option maxRecDepth 100000
set_option maxHeartbeats 4000000
namespace K20d
open PySem PySem.Spec PyProof.Rows L2 Nf DL Pd Nd Ld Cd Hd Ke Wk
section
structure AllD (K : PySem.W.Frag) (mg : Str → Option Value) (C c : Addr) : Prop where
  T : Txt K mg C
  p_things : PropAt K C "things" "Table.things" s_Table_things
  d_is_integer : DefAt K mg "is_integer" s_is_integer
  d_is_integer_within : DefAt K mg "is_integer_within" s_is_integer_within
  d_is_lot : DefAt K mg "is_lot" s_is_lot
  d_is_pair : DefAt K mg "is_pair" s_is_pair
  d_is_parting : DefAt K mg "is_parting" s_is_parting
  d_check_things : DefAt K mg "check_things" s_check_things
  d_check_pair : DefAt K mg "check_pair" s_check_pair
  d_check_parting : DefAt K mg "check_parting" s_check_parting
  d_lots_of : DefAt K mg "lots_of" s_lots_of
  d_pairs_of : DefAt K mg "pairs_of" s_pairs_of
  d_is_parted : DefAt K mg "is_parted" s_is_parted
  d_other_lot : DefAt K mg "other_lot" s_other_lot
  d_do_cross : DefAt K mg "do_cross" s_do_cross
  d_both_ways : DefAt K mg "both_ways" s_both_ways
  d_is_distance : DefAt K mg "is_distance" s_is_distance
  d_is_entry : DefAt K mg "is_entry" s_is_entry
  d_check_distances : DefAt K mg "check_distances" s_check_distances
  d_check_table : DefAt K mg "check_table" s_check_table
  i_Table : InitAt K C "Table.__init__" s_Table_init
  d_partings : DefAt K mg "partings" s_partings
  d_parts : DefAt K mg "parts" s_parts
  d_cross : DefAt K mg "cross" s_cross
  d_partner : DefAt K mg "partner" s_partner
  d_partners : DefAt K mg "partners" s_partners
  d_do_clash : DefAt K mg "do_clash" s_do_clash
  d_clash : DefAt K mg "clash" s_clash
  d_law_urn : DefAt K mg "_law_urn" s_law_urn
  d_law_cast : DefAt K mg "_law_cast" s_law_cast
  d_law_pick : DefAt K mg "_law_pick" s_law_pick
  d_law_shuffled : DefAt K mg "_law_shuffled" s_law_shuffled
  d_law_names : DefAt K mg "_law_names" s_law_names
  d_law_twos : DefAt K mg "_law_twos" s_law_twos
  d_law_both : DefAt K mg "_law_both" s_law_both
  d_law_made : DefAt K mg "_law_made" s_law_made
  d_law_lots : DefAt K mg "_law_lots" s_law_lots
  d_law_splits : DefAt K mg "_law_splits" s_law_splits
  d_law_summed : DefAt K mg "_law_summed" s_law_summed
  d_law_shortened : DefAt K mg "_law_shortened" s_law_shortened
  d_law_world : DefAt K mg "_law_world" s_law_world
  d_law_fours : DefAt K mg "_law_fours" s_law_fours
  d_law_do_cross : DefAt K mg "_law_do_cross" s_law_do_cross
  d_law_do_clash : DefAt K mg "_law_do_clash" s_law_do_clash
  d_law_right : DefC K mg "_law_right" s_law_right c
  d_law : DefAt K mg "law" s_law
  d_law_heard : DefAt K mg "_law_heard" s_law_heard
variable {P : Program} {w : World} {K : PySem.W.Frag} {mg : Str → Option Value} {base : Heap} {C : Addr}
theorem all_ok {c Tp : Addr} (A : AllD K mg C c) (TB : LamX.TabB base mg c Tp) : ∀ f fd, Fun K "law" "law" s_law f fd → FnOkG P w K mg base 9 f fd ["_law_script"] (spD K 1 (S_law [(Tp, lamQ)])) := by
  have CH : Heard K mg := by
    obtain ⟨f, fd, hm, F⟩ := A.d_law_heard
    exact ⟨f, fd, hm, F, F.binds (fun _ _ _ _ _ _ us hl => match us, hl with | [_], _ => rfl)⟩
  have P_things : CanP P w K mg base C "things" "_things" := by
    obtain ⟨p, g, fd, hp, F⟩ := A.p_things
    obtain ⟨oc, od, kV, doc, pm, an, cdv, ct, osl, rfl, lk, hcd⟩ := F.ex
    exact ⟨p, g, _, hp, fn_getter lk hcd sc_Table_things rfl rfl A.T.cl A.T.n_things, F.binds (fun _ _ _ _ _ _ us hl => match us, hl with | [_], _ => rfl)⟩
  have C_is_integer : CanD P w K mg base 1 "is_integer" s_is_integer ["value"] S_is_integer := ⟨can_of A.d_is_integer (fun _ _ _ _ _ _ us hl => match us, hl with | [_], _ => rfl) fun f fd F => ok_is_integer F A.T ⟩
  have C_is_integer_within : CanD P w K mg base 2 "is_integer_within" s_is_integer_within ["value", "least", "most"] S_is_integer_within := ⟨can_of A.d_is_integer_within (fun _ _ _ _ _ _ us hl => match us, hl with | [_, _, _], _ => rfl) fun f fd F => ok_is_integer_within F A.T C_is_integer⟩
  have C_is_lot : CanD P w K mg base 1 "is_lot" s_is_lot ["value", "letters"] S_is_lot := ⟨can_of A.d_is_lot (fun _ _ _ _ _ _ us hl => match us, hl with | [_, _], _ => rfl) fun f fd F => ok_is_lot F A.T ⟩
  have C_is_pair : CanD P w K mg base 2 "is_pair" s_is_pair ["value", "letters"] S_is_pair := ⟨can_of A.d_is_pair (fun _ _ _ _ _ _ us hl => match us, hl with | [_, _], _ => rfl) fun f fd F => ok_is_pair F A.T C_is_lot⟩
  have C_is_parting : CanD P w K mg base 2 "is_parting" s_is_parting ["value", "things"] S_is_parting := ⟨can_of A.d_is_parting (fun _ _ _ _ _ _ us hl => match us, hl with | [_, _], _ => rfl) fun f fd F => ok_is_parting F A.T C_is_lot⟩
  have C_check_things : CanD P w K mg base 2 "check_things" s_check_things ["things"] S_check_things := ⟨can_of A.d_check_things (fun _ _ _ _ _ _ us hl => match us, hl with | [_], _ => rfl) fun f fd F => ok_check_things F A.T C_is_lot⟩
  have C_check_pair : CanD P w K mg base 3 "check_pair" s_check_pair ["things", "pair"] S_check_pair := ⟨can_of A.d_check_pair (fun _ _ _ _ _ _ us hl => match us, hl with | [_, _], _ => rfl) fun f fd F => ok_check_pair F A.T C_is_pair⟩
  have C_check_parting : CanD P w K mg base 3 "check_parting" s_check_parting ["things", "parting"] S_check_parting := ⟨can_of A.d_check_parting (fun _ _ _ _ _ _ us hl => match us, hl with | [_, _], _ => rfl) fun f fd F => ok_check_parting F A.T C_is_parting⟩
  have C_lots_of : CanD P w K mg base 1 "lots_of" s_lots_of ["letters", "least"] S_lots_of := ⟨can_of A.d_lots_of (fun _ _ _ _ _ _ us hl => match us, hl with | [_, _], _ => rfl) fun f fd F => ok_lots_of F A.T ⟩
  have C_pairs_of : CanD P w K mg base 1 "pairs_of" s_pairs_of ["letters"] S_pairs_of := ⟨can_of A.d_pairs_of (fun _ _ _ _ _ _ us hl => match us, hl with | [_], _ => rfl) fun f fd F => ok_pairs_of F A.T ⟩
  have C_is_parted : CanD P w K mg base 1 "is_parted" s_is_parted ["parting", "pair"] S_is_parted := ⟨can_of A.d_is_parted (fun _ _ _ _ _ _ us hl => match us, hl with | [_, _], _ => rfl) fun f fd F => ok_is_parted F A.T ⟩
  have C_other_lot : CanD P w K mg base 1 "other_lot" s_other_lot ["things", "lot"] S_other_lot := ⟨can_of A.d_other_lot (fun _ _ _ _ _ _ us hl => match us, hl with | [_, _], _ => rfl) fun f fd F => ok_other_lot F A.T ⟩
  have C_do_cross : CanD P w K mg base 2 "do_cross" s_do_cross ["things", "parting", "other_parting"] S_do_cross := ⟨can_of A.d_do_cross (fun _ _ _ _ _ _ us hl => match us, hl with | [_, _, _], _ => rfl) fun f fd F => ok_do_cross F A.T C_other_lot⟩
  have C_both_ways : CanD P w K mg base 1 "both_ways" s_both_ways ["places", "rows"] S_both_ways := ⟨can_of A.d_both_ways (fun _ _ _ _ _ _ us hl => match us, hl with | [_, _], _ => rfl) fun f fd F => ok_both_ways F A.T ⟩
  have C_is_distance : CanD P w K mg base 3 "is_distance" s_is_distance ["value"] S_is_distance := ⟨can_of A.d_is_distance (fun _ _ _ _ _ _ us hl => match us, hl with | [_], _ => rfl) fun f fd F => ok_is_distance F A.T C_is_integer_within⟩
  have C_is_entry : CanD P w K mg base 1 "is_entry" s_is_entry ["value", "pair"] S_is_entry := ⟨can_of A.d_is_entry (fun _ _ _ _ _ _ us hl => match us, hl with | [_, _], _ => rfl) fun f fd F => ok_is_entry F A.T ⟩
  have C_check_distances : CanD P w K mg base 4 "check_distances" s_check_distances ["things", "distances", "fits"] (S_check_distances mg) := ⟨can_of A.d_check_distances (fun _ _ _ _ _ _ us hl => match us, hl with | [_, _, _], _ => rfl) fun f fd F => ok_check_distances F A.T C_pairs_of C_is_entry C_is_distance⟩
  have C_check_table : CanD P w K mg base 2 "check_table" s_check_table ["table"] (S_check_table C) := ⟨can_of A.d_check_table (fun _ _ _ _ _ _ us hl => match us, hl with | [_], _ => rfl) fun f fd F => ok_check_table F A.T ⟩
  have C_Table : CanMD P w K mg base 5 "Table" C ["self", "things", "distances"] (S_Table C) := by
    obtain ⟨f, fd, M, F⟩ := A.i_Table
    exact ⟨⟨f, fd, A.T.g_Table, M, F.binds (fun _ _ _ _ _ _ us hl => match us, hl with | [_, _, _], _ => rfl), ok_Table_init F A.T C_check_things C_check_distances C_is_distance C_both_ways⟩⟩
  have C_partings : CanD P w K mg base 3 "partings" s_partings ["table"] (S_partings C) := ⟨can_of A.d_partings (fun _ _ _ _ _ _ us hl => match us, hl with | [_], _ => rfl) fun f fd F => ok_partings F A.T P_things C_check_table C_lots_of⟩
  have C_parts : CanD P w K mg base 4 "parts" s_parts ["table", "parting", "pair"] (S_parts C) := ⟨can_of A.d_parts (fun _ _ _ _ _ _ us hl => match us, hl with | [_, _, _], _ => rfl) fun f fd F => ok_parts F A.T P_things C_check_table C_check_parting C_check_pair C_is_parted⟩
  have C_cross : CanD P w K mg base 4 "cross" s_cross ["table", "parting", "other_parting"] (S_cross C) := ⟨can_of A.d_cross (fun _ _ _ _ _ _ us hl => match us, hl with | [_, _, _], _ => rfl) fun f fd F => ok_cross F A.T P_things C_check_table C_check_parting C_do_cross⟩
  have C_partner : CanD P w K mg base 2 "partner" s_partner ["parting", "four"] S_partner := ⟨can_of A.d_partner (fun _ _ _ _ _ _ us hl => match us, hl with | [_, _], _ => rfl) fun f fd F => ok_partner F A.T C_is_parted⟩
  have C_partners : CanD P w K mg base 3 "partners" s_partners ["three", "four"] S_partners := ⟨can_of A.d_partners (fun _ _ _ _ _ _ us hl => match us, hl with | [_, _], _ => rfl) fun f fd F => ok_partners F A.T C_partner⟩
  have C_do_clash : CanD P w K mg base 4 "do_clash" s_do_clash ["things", "three"] S_do_clash := ⟨can_of A.d_do_clash (fun _ _ _ _ _ _ us hl => match us, hl with | [_, _], _ => rfl) fun f fd F => ok_do_clash F A.T C_partners⟩
  have C_clash : CanD P w K mg base 5 "clash" s_clash ["table", "parting", "other_parting", "third_parting"] (S_clash C) := ⟨can_of A.d_clash (fun _ _ _ _ _ _ us hl => match us, hl with | [_, _, _, _], _ => rfl) fun f fd F => ok_clash F A.T P_things C_check_table C_check_parting C_do_clash⟩
  have C_law_urn : CanD P w K mg base 1 "_law_urn" s_law_urn ["_law_cells", "_law_turn"] S_law_urn := ⟨can_of A.d_law_urn (fun _ _ _ _ _ _ us hl => match us, hl with | [_, _], _ => rfl) fun f fd F => ok_law_urn F A.T ⟩
  have C_law_cast : CanD P w K mg base 1 "_law_cast" s_law_cast ["_law_urn_here", "_law_size"] S_law_cast := ⟨can_of A.d_law_cast (fun _ _ _ _ _ _ us hl => match us, hl with | [_, _], _ => rfl) fun f fd F => ok_law_cast F A.T ⟩
  have C_law_pick : CanD P w K mg base 2 "_law_pick" s_law_pick ["_law_urn_here", "_law_items"] S_law_pick := ⟨can_of A.d_law_pick (fun _ _ _ _ _ _ us hl => match us, hl with | [_, _], _ => rfl) fun f fd F => ok_law_pick F A.T C_law_cast⟩
  have C_law_shuffled : CanD P w K mg base 2 "_law_shuffled" s_law_shuffled ["_law_urn_here", "_law_items"] S_law_shuffled := ⟨can_of A.d_law_shuffled (fun _ _ _ _ _ _ us hl => match us, hl with | [_, _], _ => rfl) fun f fd F => ok_law_shuffled F A.T C_law_cast⟩
  have C_law_names : CanD P w K mg base 3 "_law_names" s_law_names ["_law_urn_here", "_law_least", "_law_most"] S_law_names := ⟨can_of A.d_law_names (fun _ _ _ _ _ _ us hl => match us, hl with | [_, _, _], _ => rfl) fun f fd F => ok_law_names F A.T C_law_cast C_law_shuffled⟩
  have C_law_twos : CanD P w K mg base 1 "_law_twos" s_law_twos ["_law_names_here"] S_law_twos := ⟨can_of A.d_law_twos (fun _ _ _ _ _ _ us hl => match us, hl with | [_], _ => rfl) fun f fd F => ok_law_twos F A.T ⟩
  have C_law_both : CanD P w K mg base 2 "_law_both" s_law_both ["_law_names_here", "_law_known"] S_law_both := ⟨can_of A.d_law_both (fun _ _ _ _ _ _ us hl => match us, hl with | [_, _], _ => rfl) fun f fd F => ok_law_both F A.T C_law_twos⟩
  have C_law_made : CanD P w K mg base 7 "_law_made" s_law_made ["_law_names_here", "_law_far"] (S_law_made C) := ⟨can_of A.d_law_made (fun _ _ _ _ _ _ us hl => match us, hl with | [_, _], _ => rfl) fun f fd F => ok_law_made F A.T C_Table C_law_twos⟩
  have C_law_lots : CanD P w K mg base 1 "_law_lots" s_law_lots ["_law_names_here"] S_law_lots := ⟨can_of A.d_law_lots (fun _ _ _ _ _ _ us hl => match us, hl with | [_], _ => rfl) fun f fd F => ok_law_lots F A.T ⟩
  have C_law_splits : CanD P w K mg base 1 "_law_splits" s_law_splits ["_law_lot", "_law_two"] S_law_splits := ⟨can_of A.d_law_splits (fun _ _ _ _ _ _ us hl => match us, hl with | [_, _], _ => rfl) fun f fd F => ok_law_splits F A.T ⟩
  have C_law_summed : CanD P w K mg base 2 "_law_summed" s_law_summed ["_law_names_here", "_law_marks"] S_law_summed := ⟨can_of A.d_law_summed (fun _ _ _ _ _ _ us hl => match us, hl with | [_, _], _ => rfl) fun f fd F => ok_law_summed F A.T C_law_twos C_law_splits⟩
  have C_law_shortened : CanD P w K mg base 1 "_law_shortened" s_law_shortened ["_law_names_here", "_law_far"] S_law_shortened := ⟨can_of A.d_law_shortened (fun _ _ _ _ _ _ us hl => match us, hl with | [_, _], _ => rfl) fun f fd F => ok_law_shortened F A.T ⟩
  have C_law_world : CanD P w K mg base 4 "_law_world" s_law_world ["_law_urn_here", "_law_least", "_law_most"] S_law_world := ⟨can_of A.d_law_world (fun _ _ _ _ _ _ us hl => match us, hl with | [_, _, _], _ => rfl) fun f fd F => ok_law_world F A.T C_law_names C_law_shuffled C_law_pick C_law_cast C_law_twos C_law_shortened C_law_both C_law_summed⟩
  have C_law_fours : CanD P w K mg base 1 "_law_fours" s_law_fours ["_law_names_here"] S_law_fours := ⟨can_of A.d_law_fours (fun _ _ _ _ _ _ us hl => match us, hl with | [_], _ => rfl) fun f fd F => ok_law_fours F A.T ⟩
  have C_law_do_cross : CanD P w K mg base 1 "_law_do_cross" s_law_do_cross ["_law_names_here", "_law_one", "_law_two"] S_law_do_cross := ⟨can_of A.d_law_do_cross (fun _ _ _ _ _ _ us hl => match us, hl with | [_, _, _], _ => rfl) fun f fd F => ok_law_do_cross F A.T ⟩
  have C_law_do_clash : CanD P w K mg base 2 "_law_do_clash" s_law_do_clash ["_law_names_here", "_law_lots_here"] S_law_do_clash := ⟨can_of A.d_law_do_clash (fun _ _ _ _ _ _ us hl => match us, hl with | [_, _], _ => rfl) fun f fd F => ok_law_do_clash F A.T C_law_fours⟩
  have C_law_right : CanG P w K mg base 8 "_law_right" ["_law_urn_here"] (S_law_right [(Tp, lamQ)]) := by
    obtain ⟨f, fd, hm, F⟩ := A.d_law_right
    have ok := ok_law_right (P := P) (w := w) F A.T TB CH C_law_world C_law_lots C_law_made C_partings C_law_twos C_parts C_law_splits C_cross C_law_do_cross C_law_pick C_clash C_law_do_clash
    obtain ⟨oc, od, kV, doc, pm, an, ct, osl, rfl, lk, hcd⟩ := F.ex
    exact ⟨f, _, hm, F.kp, .all (fun us hl => match us, hl with | [_], _ => rfl), ok⟩
  exact fun f fd F => ok_law F A.T C_law_right C_law_urn
theorem txt_mk {h : Heap} (X : K.In h) (G : h.Ns mainGlobals mg) (h_cl : Cls K C) (h_is_Table : IsC K C) (h_n_things : NoAttr K C "_things") (h_n_distances : NoAttr K C "_distances") (h_n_lengths : NoAttr K C "_lengths") {t_g_LETTERS : Tok} (h_g_LETTERS : PySem.W.nsIn K mainGlobals "LETTERS" = some (some (.str "abcdefghijklmnopqrstuvwxyz" t_g_LETTERS))) {t_g_LEAST_THINGS : Tok} (h_g_LEAST_THINGS : PySem.W.nsIn K mainGlobals "LEAST_THINGS" = some (some (.int 2 t_g_LEAST_THINGS))) {t_g_MOST_THINGS : Tok} (h_g_MOST_THINGS : PySem.W.nsIn K mainGlobals "MOST_THINGS" = some (some (.int 7 t_g_MOST_THINGS))) {t_g_MOST_DISTANCE : Tok} (h_g_MOST_DISTANCE : PySem.W.nsIn K mainGlobals "MOST_DISTANCE" = some (some (.int 1000000 t_g_MOST_DISTANCE))) (h_g_Table : PySem.W.nsIn K mainGlobals "Table" = some (some (.ref C))) (h_combinations : PySem.W.nsIn K mainGlobals "combinations" = some (some (.type "itertools.combinations"))) (h_isinstance : PySem.W.nsIn K mainGlobals "isinstance" = some none) (h_len : PySem.W.nsIn K mainGlobals "len" = some none) (h_int : PySem.W.nsIn K mainGlobals "int" = some none) (h_bool : PySem.W.nsIn K mainGlobals "bool" = some none) (h_str : PySem.W.nsIn K mainGlobals "str" = some none) (h_tuple : PySem.W.nsIn K mainGlobals "tuple" = some none) (h_list : PySem.W.nsIn K mainGlobals "list" = some none) (h_dict : PySem.W.nsIn K mainGlobals "dict" = some none) (h_range : PySem.W.nsIn K mainGlobals "range" = some none) (h_enumerate : PySem.W.nsIn K mainGlobals "enumerate" = some none) (h_sorted : PySem.W.nsIn K mainGlobals "sorted" = some none) (h_any : PySem.W.nsIn K mainGlobals "any" = some none) (h_all : PySem.W.nsIn K mainGlobals "all" = some none) (h_min : PySem.W.nsIn K mainGlobals "min" = some none) (h_max : PySem.W.nsIn K mainGlobals "max" = some none) (h_abs : PySem.W.nsIn K mainGlobals "abs" = some none) (h_sum : PySem.W.nsIn K mainGlobals "sum" = some none) (h_divmod : PySem.W.nsIn K mainGlobals "divmod" = some none) (h_repr : PySem.W.nsIn K mainGlobals "repr" = some none) : Txt K mg C :=
  ⟨h_cl, h_is_Table, h_n_things, h_n_distances, h_n_lengths, ⟨t_g_LETTERS, PySem.W.mg_of X G h_g_LETTERS⟩, ⟨t_g_LEAST_THINGS, PySem.W.mg_of X G h_g_LEAST_THINGS⟩, ⟨t_g_MOST_THINGS, PySem.W.mg_of X G h_g_MOST_THINGS⟩, ⟨t_g_MOST_DISTANCE, PySem.W.mg_of X G h_g_MOST_DISTANCE⟩, PySem.W.mg_of X G h_g_Table, PySem.W.mg_of X G h_combinations, PySem.W.mg_none_of X G h_isinstance, PySem.W.mg_none_of X G h_len, PySem.W.mg_none_of X G h_int, PySem.W.mg_none_of X G h_bool, PySem.W.mg_none_of X G h_str, PySem.W.mg_none_of X G h_tuple, PySem.W.mg_none_of X G h_list, PySem.W.mg_none_of X G h_dict, PySem.W.mg_none_of X G h_range, PySem.W.mg_none_of X G h_enumerate, PySem.W.mg_none_of X G h_sorted, PySem.W.mg_none_of X G h_any, PySem.W.mg_none_of X G h_all, PySem.W.mg_none_of X G h_min, PySem.W.mg_none_of X G h_max, PySem.W.mg_none_of X G h_abs, PySem.W.mg_none_of X G h_sum, PySem.W.mg_none_of X G h_divmod, PySem.W.mg_none_of X G h_repr⟩
end
end K20d
set_option maxHeartbeats 0
open PySem PySem.W PyProof.Rows
open_top head for PySem.Challenge.rw_nearandfar_k20_whole_partings_of_things
set_option Elab.async false
set_option linter.all false
set_option maxRecDepth 100000
set_option maxHeartbeats 4000000
set_option maxHeartbeats 0 in
open PySem PySem.W PyProof.Rows in
theorem PySem.Challenge.cw_nearandfar_k20_whole_partings_of_things_holds : PySem.Challenge.rw_nearandfar_k20_whole_partings_of_things.Holds := by
  refine head (Wk.walk_G (k := 9) (K := head.heap_39) (Tp := 572) (lq := K20d.lamQ) rfl (by decide) rfl rfl ⟨rfl, by decide +kernel, by decide +kernel⟩ (fun w h Y => ⟨PySem.W.km_in_of Y, PySem.W.km_tabs_of Y 572 (List.mem_singleton.mpr rfl)⟩) ?F)
  intro w mg h X G
  have A : K20d.AllD (head.heap_39 w.params) mg (Wk.fAt (head.heap_39 w.params) "Table") (Wk.cAt (head.heap_39 w.params) (Wk.fAt (head.heap_39 w.params) "_law_right")) := by
    constructor
    case T =>
      refine K20d.txt_mk (t_g_LETTERS := Wk.tAt (head.heap_39 w.params) "LETTERS") (t_g_LEAST_THINGS := Wk.tAt (head.heap_39 w.params) "LEAST_THINGS") (t_g_MOST_THINGS := Wk.tAt (head.heap_39 w.params) "MOST_THINGS") (t_g_MOST_DISTANCE := Wk.tAt (head.heap_39 w.params) "MOST_DISTANCE") X G ?h_0 ?h_1 ?h_2 ?h_3 ?h_4 ?h_5 ?h_6 ?h_7 ?h_8 ?h_9 ?h_10 ?h_11 ?h_12 ?h_13 ?h_14 ?h_15 ?h_16 ?h_17 ?h_18 ?h_19 ?h_20 ?h_21 ?h_22 ?h_23 ?h_24 ?h_25 ?h_26 ?h_27 ?h_28 ?h_29
      case h_0 =>
        refine ⟨?_, ?_, ?_, ?_⟩
        all_goals kernel_rfl
      case h_1 =>
        refine ⟨⟨?_, ?_, ?_, ?_⟩, ?_, ?_, ?_, ?_, ?_, fun n hn => ?_⟩
        case refine_10 =>
          simp only [DL.tyNames, List.mem_cons, List.not_mem_nil, or_false] at hn
          (repeat' rcases hn with hn | hn) <;> kernel_rfl
        all_goals kernel_rfl
      case h_2 => (show PySem.W.findIn _ _ _ = _; kernel_rfl)
      case h_3 => (show PySem.W.findIn _ _ _ = _; kernel_rfl)
      case h_4 => (show PySem.W.findIn _ _ _ = _; kernel_rfl)
      case h_5 => kernel_rfl
      case h_6 => kernel_rfl
      case h_7 => kernel_rfl
      case h_8 => kernel_rfl
      case h_9 => kernel_rfl
      case h_10 => kernel_rfl
      case h_11 => kernel_rfl
      case h_12 => kernel_rfl
      case h_13 => kernel_rfl
      case h_14 => kernel_rfl
      case h_15 => kernel_rfl
      case h_16 => kernel_rfl
      case h_17 => kernel_rfl
      case h_18 => kernel_rfl
      case h_19 => kernel_rfl
      case h_20 => kernel_rfl
      case h_21 => kernel_rfl
      case h_22 => kernel_rfl
      case h_23 => kernel_rfl
      case h_24 => kernel_rfl
      case h_25 => kernel_rfl
      case h_26 => kernel_rfl
      case h_27 => kernel_rfl
      case h_28 => kernel_rfl
      case h_29 => kernel_rfl
    case p_things =>
      refine Wk.prop_at ?_ ?_ ?_ ?_ ?_ ?_ ?_
      all_goals kernel_rfl
    case i_Table =>
      refine Wk.init_at ?_ ?_ ?_ ?_ ?_ ?_ ?_
      all_goals kernel_rfl
    case d_law_right =>
      refine Wk.defC_at X G ?_ ?_ ?_ ?_
      all_goals kernel_rfl
    all_goals
      refine Wk.def_at X G ?_ ?_ ?_ ?_
      all_goals kernel_rfl
  obtain ⟨f, fd, hm, F⟩ := A.d_law
  refine ⟨Wk.cAt (head.heap_39 w.params) (Wk.fAt (head.heap_39 w.params) "_law_right"), f, fd, ?_, ?_, hm, fun s u => ?_, fun P bh TB => K20d.all_ok A TB f fd F⟩
  · kernel_rfl
  · kernel_rfl
  · obtain ⟨oc, od, kV, doc, pm, an, cdv, ct, osl, rfl, lk, hcd⟩ := F.ex
    exact .of_eq rfl
#print axioms PySem.Challenge.cw_nearandfar_k20_whole_partings_of_things_holds
