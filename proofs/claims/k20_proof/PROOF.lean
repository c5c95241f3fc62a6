import PyProof.Rows.All
import Wide.All
import OpenK.AllK
import Wide.FinOn
import PySem.Challenge.RW_nearandfar_k20_whole_partings_of_things
import PyProof.ZipIter
import PyProof.CallType
import PyProof.Walk
import PyProof.WalkLemmas
import PyProof.RangeIter
import PyProof.RulesTry
import PyProof.CollectStr
import PyProof.TupleOfSeq
import HandS.ForMost
import HandS.Walk
import HandS.ForExc
import HandS.Defaults
import HandS.IsInst
import HandS.Property
import HandS.DictComp
import HandS.Lambda
import HandS.EndTab
import HandS.Wide
import HandS.Deep
import KE.GoesEnum
import HandS.Style
import HandS.Conv
import PyProof.Rows.StrRev
import HandS.SortInts
set_option Elab.async false
set_option linter.all false
set_option maxRecDepth 100000
set_option maxHeartbeats 2000000
namespace CpComb
open PySem PySem.Spec
open Sem (wp)

theorem mro_comb : mroOf (.type "itertools.combinations") = pure [.type "itertools.combinations", .type "object"] := by rw [mroOf_type]; kernel_rfl
theorem lookup_comb_new : typeLookup (.type "itertools.combinations") "__new__" = pure (some (.builtin "itertools.combinations.__new__")) := by rw [typeLookup_type, builtinLookup_eq_fast]; kernel_rfl
theorem slot_comb_init : Slot "itertools.combinations" "__init__" "object.__init__" :=
  .of (owner := "object") (n := "__init__") (by rw [typeLookup_type, builtinLookup_eq_fast]; kernel_rfl) (by decide +kernel) (by decide +kernel) (by decide +kernel)
    (by first | exact .inl (by decide +kernel) | exact .inr (by decide +kernel)) (by rw [isSubtype_type]; kernel_rfl)
theorem sub_comb : isSubtype (.type "itertools.combinations") (.type "itertools.combinations") = pure true := by rw [isSubtype_type]; kernel_rfl
theorem called_comb : TypeCalled "itertools.combinations" "itertools.combinations.__new__" "object.__init__" :=
  ⟨by decide +kernel, by decide +kernel, ⟨_, _, mro_comb⟩, madeBy_type mro_comb lookup_comb_new (by decide +kernel), by decide +kernel, sub_comb, slot_comb_init⟩
theorem typeCall_comb_2 (a b : Value) : checkTypeCall "itertools.combinations" ⟨[a, b], []⟩ = pure () := by kernel_rfl
theorem newCall_comb_2 (a b : Value) : checkBuiltinCall "itertools.combinations.__new__" ⟨[.type "itertools.combinations", a, b], []⟩ = pure () := by kernel_rfl
theorem entry_comb_new : entryFor table "itertools.combinations.__new__" = some Builtin.«itertools.combinations.__new__» := entryFor_of_tree (by kernel_rfl)
theorem slot_comb_iter : Slot "itertools.combinations" "__iter__" "itertools.combinations.__iter__" :=
  .of (owner := "itertools.combinations") (n := "__iter__") (by rw [typeLookup_type, builtinLookup_eq_fast]; kernel_rfl) (by decide +kernel) (by decide +kernel) (by decide +kernel)
    (by first | exact .inl (by decide +kernel) | exact .inr (by decide +kernel)) sub_comb
theorem slot_comb_next : Slot "itertools.combinations" "__next__" "itertools.combinations.__next__" :=
  .of (owner := "itertools.combinations") (n := "__next__") (by rw [typeLookup_type, builtinLookup_eq_fast]; kernel_rfl) (by decide +kernel) (by decide +kernel) (by decide +kernel)
    (by first | exact .inl (by decide +kernel) | exact .inr (by decide +kernel)) sub_comb
theorem entry_comb_iter : entryFor table "itertools.combinations.__iter__" = some Builtin.«dict_keyiterator.__iter__» :=
  entryFor_alias (id' := "dict_keyiterator.__iter__") (by kernel_rfl) (by first | rfl | decide +kernel | (unfold String.splitOn; simp +decide [String.splitOnAux])) (by decide +kernel) (by kernel_rfl)
theorem entry_comb_next : entryFor table "itertools.combinations.__next__" = some Builtin.«itertools.combinations.__next__» := entryFor_of_tree (by kernel_rfl)
theorem owner_comb : Manifest.owners.lookup (String.ofList ['s', 'n', 'o', 'i', 't', 'a', 'n', 'i', 'b', 'm', 'o', 'c', '.', 's', 'l', 'o', 'o', 't', 'r', 'e', 't', 'i'].reverse) = some Manifest.sig_itertools_combinations := by kernel_rfl
theorem args_comb_iter (a : Value) : argsOk "itertools.combinations.__iter__" ⟨[a], []⟩ := by
  unfold argsOk; rw [signature?_of (id := "itertools.combinations.__iter__") (n := ['_', '_', 'r', 'e', 't', 'i', '_', '_']) (o := ['s', 'n', 'o', 'i', 't', 'a', 'n', 'i', 'b', 'm', 'o', 'c', '.', 's', 'l', 'o', 'o', 't', 'r', 'e', 't', 'i']) (by kernel_rfl) owner_comb]; kernel_rfl
theorem args_comb_next (a : Value) : argsOk "itertools.combinations.__next__" ⟨[a], []⟩ := by
  unfold argsOk; rw [signature?_of (id := "itertools.combinations.__next__") (n := ['_', '_', 't', 'x', 'e', 'n', '_', '_']) (o := ['s', 'n', 'o', 'i', 't', 'a', 'n', 'i', 'b', 'm', 'o', 'c', '.', 's', 'l', 'o', 'o', 't', 'r', 'e', 't', 'i']) (by kernel_rfl) owner_comb]; kernel_rfl
theorem noDict_comb : typeHasDict (.type "itertools.combinations") = false := by decide +kernel
end CpComb
set_option Elab.async false
set_option linter.all false
set_option maxRecDepth 100000
set_option maxHeartbeats 2000000
namespace CpComb
open PySem PySem.Spec
open Sem (wp)
abbrev combO (pl : Addr) (st : Int) (last : Value) (ix : List Nat) : Obj :=
  { cls := .type "itertools.combinations", dict := none, data := .fields (([.ref pl, .int st 0, last] ++ ix.map fun (i : Nat) => rawInt i).toArray), slots := #[] }
abbrev IsComb (h : Heap) (it pl : Addr) (st : Int) (last : Value) (ix : List Nat) : Prop := h.get? it = some (combO pl st last ix)
abbrev poolO (items : List Value) : Obj := { cls := .type "tuple", data := .seq items.toArray }
abbrev IsPool (h : Heap) (pl : Addr) (items : List Value) : Prop := h.get? pl = some (poolO items)

theorem comb_new {prog : Program} {w : World} (x : Value) (r : Nat) (t : Tok) (hr : r ≤ 1000) :
    MeetsIn prog w (Builtin.«itertools.combinations.__new__» ⟨[.type "itertools.combinations", x, .int r t], []⟩)
      (fun A R s => wpAny (model prog w) A.in1 (collect x) (fun items s1 => items.length ≤ sizeLine ∧ R (.ok (.ret (.ref (s1.heap.push (poolO items)).objs.size)))
        { s1 with heap := (s1.heap.push (poolO items)).push (combO s1.heap.objs.size (if r > items.length then 2 else 0) .none (List.range r)) }) (fun e s1 => R (.error e) s1) s) :=
  .of_wp fun A R s h => by
    have hsub : isSubtype (.type "itertools.combinations") (.type ("itertools." ++ "combinations")) = pure true := sub_comb
    unfold Builtin.«itertools.combinations.__new__»
    refine wpAny_bind ?_
    repeat (first
      | wp_step
      | simp only [List.head?_cons, Option.some_or, List.getElem?_cons_succ, List.getElem?_cons_zero, List.length_cons, List.length_nil, List.forIn_nil])
    have h1 : ¬ ((decide ((r : Int) < -2 ^ 63) || decide ((r : Int) ≥ 2 ^ 63)) = true) := by
      have a : decide ((r : Int) < -2 ^ 63) = false := decide_eq_false (by omega)
      have b : decide ((r : Int) ≥ 2 ^ 63) = false := decide_eq_false (by omega)
      rw [a, b]; decide
    rw [if_neg h1]
    refine wpAny_pure ?_
    refine wpAny_bind (wpAny_mono h (fun items s1 hR => ?_) fun _ _ z => z)
    obtain ⟨hsz, hR⟩ := hR
    have h2 : ¬ ((r : Int) < 0) := by omega
    rw [if_neg h2]
    have h3 : Builtin.Itertools.itTooMany (r : Int) = false := by
      show decide ((r : Int) > 2 ^ 20) = false
      exact decide_eq_false (by omega)
    rw [if_neg (by rw [h3]; decide)]
    refine wpAny_bind (wpAny_newTuple ?_ hsz)
    refine wpAny_pure ?_
    have e : ((r : Int)).toNat = r := Int.toNat_natCast r
    have hnd := noDict_comb
    refine wpAny_bind ?_
    show wpAny _ _ (Builtin.Itertools.itNewRecord (.type "itertools.combinations") ([Value.ref s1.heap.objs.size, rawInt (if (r : Int).toNat > items.length then 2 else 0), Value.none] ++ List.map (fun (i : Nat) => rawInt i) (List.range (r : Int).toNat))) _ _ _
    rw [e]
    unfold Builtin.Itertools.itNewRecord
    rw [hnd]
    rw [if_pos (show (!false) = true from rfl)]
    refine wpAny_newObj_type ?_ ?_
    · exact wpAny_pure ⟨_, rfl, hR⟩
    · have z : sizeLine = 16777216 := sizeLine_eq
      show ([Value.ref s1.heap.objs.size, rawInt (if r > items.length then 2 else 0), Value.none] ++ List.map (fun (i : Nat) => rawInt i) (List.range r)).toArray.size ≤ sizeLine + 2
      rw [List.size_toArray, List.length_append, List.length_map, List.length_range]
      show 3 + r ≤ _
      omega
end CpComb
set_option Elab.async false
set_option linter.all false
set_option maxRecDepth 100000
set_option maxHeartbeats 2000000
namespace CpComb
open PySem PySem.Spec
open Sem (wp)
section
variable {prog : Program} {w : World} {A : Around} {E : Value → Shared → Prop} {s : Shared}
/-- combinations(x, r), x whatever collect takes -/
theorem call_comb {x : Value} {r : Nat} {t : Tok} {Q : Value → Shared → Prop} (hr : r ≤ 1000)
    (h : wpAny (model prog w) A.in1.in1 (collect x) (fun items s1 => items.length ≤ sizeLine ∧ ∀ h', IsPool h' s1.heap.objs.size items → IsComb h' (s1.heap.objs.size + 1) s1.heap.objs.size (if r > items.length then 2 else 0) .none (List.range r) →
      h'.objs.size = s1.heap.objs.size + 2 → (∀ b o, s1.heap.get? b = some o → h'.get? b = some o) → Q (.ref (s1.heap.objs.size + 1)) { s1 with heap := h' }) E s) :
    wpAny (model prog w) A (call (.type "itertools.combinations") [x, .int r t]) Q E s := by
  refine callType_newIn called_comb (by decide +kernel) (typeCall_comb_2 _ _) (newCall_comb_2 _ _) (fun obj => F.args_object_init_3 obj _ _) entry_comb_new (comb_new x r t hr) ?_
  refine wpAny_mono h (fun items s1 h => ?_) fun _ _ z => z
  obtain ⟨hz, h⟩ := h
  refine ⟨hz, ?_⟩
  have z : (s1.heap.push (poolO items)).objs.size = s1.heap.objs.size + 1 := Heap.size_push ..
  have gm : ((s1.heap.push (poolO items)).push (combO s1.heap.objs.size (if r > items.length then 2 else 0) .none (List.range r))).get? (s1.heap.push (poolO items)).objs.size = some (combO s1.heap.objs.size (if r > items.length then 2 else 0) .none (List.range r)) := Heap.get?_push_size _ rfl
  have gT : ((s1.heap.push (poolO items)).push (combO s1.heap.objs.size (if r > items.length then 2 else 0) .none (List.range r))).get? s1.heap.objs.size = some (poolO items) := Heap.get?_push_of_some _ (Heap.get?_push_size _ rfl)
  have z2 : ((s1.heap.push (poolO items)).push (combO s1.heap.objs.size (if r > items.length then 2 else 0) .none (List.range r))).objs.size = s1.heap.objs.size + 2 := by rw [Heap.size_push, z]
  have q := h _ gT (by have gm2 := gm; rw [z] at gm2; exact gm2) z2 fun b o e => Heap.get?_push_of_some _ (Heap.get?_push_of_some _ e)
  show _ ∧ _
  refine ⟨⟨_, gm, rfl⟩, ?_⟩
  rw [z]
  exact q
/-- what stands behind a state: the model's own step, told anew -/
def nxt (n : Nat) (indices : List Nat) : Option (List Nat) :=
  match (List.range indices.length).reverse.find? fun i => indices.getD i 0 != i + n - indices.length with
  | none => none
  | some i => some (indices.take i ++ (List.range (indices.length - i)).map (indices.getD i 0 + 1 + ·))
def rowOf (items : List Value) (ix : List Nat) : List Value := ix.map fun i => items.toArray.getD i .none
theorem nums_of (f : Value → Nat) (hf : ∀ n : Nat, f (rawInt n) = n) (pl : Addr) (st : Int) (last : Value) (ix : List Nat) : List.map f (List.drop 3 (([Value.ref pl, .int st 0, last] ++ ix.map fun (i : Nat) => rawInt i).toArray).toList) = ix := by
  rw [List.toList_toArray]
  show List.map f (ix.map fun (i : Nat) => rawInt i) = ix
  rw [List.map_map]
  induction ix with
  | nil => rfl
  | cons a l ih =>
    rw [List.map_cons, ih]
    show f (rawInt a) :: l = a :: l
    rw [hf]
theorem wp_numbers {it pl : Addr} {st : Int} {last : Value} {ix : List Nat} {Q : List Nat → Shared → Prop} (hit : IsComb s.heap it pl st last ix) (h : Q ix s) : wpAny (model prog w) A (Builtin.Itertools.itNumbersFrom (.ref it) 3) Q E s := by
  unfold Builtin.Itertools.itNumbersFrom
  show wpAny _ _ (load it >>= _) _ _ s
  refine wpAny_bind (wpAny_load hit ?_)
  refine wpAny_pure ?_
  rw [nums_of _ (fun n => rfl)]
  exact h
theorem rows_of (items : List Value) (ix : List Nat) : (ix.map fun i => (items.toArray.getD i .none)) = rowOf items ix := rfl
/-- what a row's handing out does: the row is made, it takes the elder one's place -/
theorem wp_handOut {it pl : Addr} {st : Int} {last : Value} {items : List Value} {ix jx : List Nat} {Q : Value → Shared → Prop} (hit : IsComb s.heap it pl st last jx) (hpl : IsPool s.heap pl items) (hsz : ix.length ≤ sizeLine)
    (hQ : ∀ h', IsComb h' it pl st (.ref s.heap.objs.size) jx → h'.get? s.heap.objs.size = some (poolO (rowOf items ix)) → h'.objs.size = s.heap.objs.size + 1 → (∀ b o, b ≠ it → s.heap.get? b = some o → h'.get? b = some o) → Q (.ref s.heap.objs.size) { s with heap := h' }) :
    wpAny (model prog w) A (do
      let result ← (do let items ← Builtin.Itertools.itPoolItems (.ref pl); newTuple (ix.map fun i => items.getD i .none))
      let before ← field (.ref it) 2
      setField (.ref it) 2 result
      letGo [before] [result]
      ret result) (fun fin s' => ∃ v, fin = Fin.done (Flow.ret v) ∧ Q v s') E s := by
  have hpT : s.TypeIs (.ref pl) "tuple" := ⟨_, hpl, rfl⟩
  refine wpAny_bind (wpAny_bind ?_)
  unfold Builtin.Itertools.itPoolItems
  refine wpAny_bind ?_
  show wpAny _ _ (load pl >>= _) _ _ s
  refine wpAny_bind (wpAny_load hpl ?_)
  refine wpAny_pure (wpAny_pure ?_)
  refine wpAny_newTuple ?_ (by rw [List.length_map]; exact hsz)
  have hlt : it < s.heap.objs.size := Heap.lt_size hit
  have hit2 : IsComb (s.heap.push (poolO (rowOf items ix))) it pl st last jx := Heap.get?_push_of_some _ hit
  refine wpAny_bind (wpAny_field hit2 rfl (x := last) rfl ?_)
  refine wpAny_bind (wpAny_setField hit2 rfl (by simp) ?_)
  refine wpAny_bind (wpAny_letGo ?_)
  refine wpAny_pure ⟨_, rfl, ?_⟩
  have up := Heap.get?_update_self (Obj.mapFields fun x => x.setIfInBounds 2 (.ref s.heap.objs.size)) hit2 rfl
  have sb := Heap.SameBut.update (h := s.heap.push (poolO (rowOf items ix))) it (Obj.mapFields fun x => x.setIfInBounds 2 (.ref s.heap.objs.size))
  refine hQ _ ?_ ?_ ?_ fun b o hb e => (sb.2 b hb).trans (Heap.get?_push_of_some _ e)
  · refine Eq.trans up ?_
    simp [Obj.mapFields, combO]
  · exact (sb.2 _ (Nat.ne_of_gt hlt)).trans (Heap.get?_push_size _ rfl)
  · exact sb.1.trans (Heap.size_push ..)
theorem comb_first {it pl : Addr} {items : List Value} {ix : List Nat} {Q : Option Value → Shared → Prop} (hit : IsComb s.heap it pl 0 .none ix) (hpl : IsPool s.heap pl items) (hsz : ix.length ≤ sizeLine)
    (hQ : ∀ h', IsComb h' it pl 1 (.ref s.heap.objs.size) ix → h'.get? s.heap.objs.size = some (poolO (rowOf items ix)) → h'.objs.size = s.heap.objs.size + 1 → (∀ b o, b ≠ it → s.heap.get? b = some o → h'.get? b = some o) → Q (some (.ref s.heap.objs.size)) { s with heap := h' }) :
    wpAny (model prog w) A (pyNext (.ref it)) Q E s := by
  have hT : s.TypeIs (.ref it) "itertools.combinations" := ⟨_, hit, rfl⟩
  unfold pyNext
  refine wpAny_bind (wpAny_attempt (wpAny_callSpecial?_slot (name := Str.ofString "__next__") hT slot_comb_next (wpAny_call_entry slot_comb_next hT entry_comb_next ?_ (args_comb_next _))))
  show wpAny _ _ (field (.ref it) 0 >>= _) _ _ s
  refine wpAny_bind (wpAny_field hit rfl (x := .ref pl) rfl ?_)
  refine wpAny_bind (wp_numbers hit ?_)
  show wpAny _ _ (Builtin.Itertools.itIntField (Value.ref it) 1 >>= _) _ _ s
  refine wpAny_bind ?_
  unfold Builtin.Itertools.itIntField
  refine wpAny_bind (wpAny_field hit rfl (x := .int 0 0) rfl ?_)
  refine wpAny_pure ?_
  show wpAny _ _ (setField (Value.ref it) 1 (rawInt 1) >>= _) _ _ s
  refine wpAny_bind (wpAny_setField hit rfl (by simp) ?_)
  have sb := Heap.SameBut.update (h := s.heap) it (Obj.mapFields fun x => x.setIfInBounds 1 (rawInt 1))
  have hit1 : IsComb (s.heap.update it (Obj.mapFields fun x => x.setIfInBounds 1 (rawInt 1))) it pl 1 .none ix := by
    refine Eq.trans (Heap.get?_update_self _ hit rfl) ?_
    simp [Obj.mapFields, combO, rawInt]
  have hne : pl ≠ it := fun q => by rw [q] at hpl; exact absurd (Value.type.inj (congrArg Obj.cls (Option.some.inj (hit.symm.trans hpl)))) (by decide)
  have hpl1 : IsPool (s.heap.update it (Obj.mapFields fun x => x.setIfInBounds 1 (rawInt 1))) pl items := (sb.2 pl hne).trans hpl
  refine wp_handOut (s := { s with heap := s.heap.update it (Obj.mapFields fun x => x.setIfInBounds 1 (rawInt 1)) }) (Q := fun v s' => wpAny (model prog w) A (pure (some v)) Q E s') hit1 hpl1 hsz fun h' g1 g2 g3 g4 => ?_
  have es : (s.heap.update it (Obj.mapFields fun x => x.setIfInBounds 1 (rawInt 1))).objs.size = s.heap.objs.size := sb.1
  refine wpAny_pure ?_
  show Q (some (.ref (s.heap.update it (Obj.mapFields fun x => x.setIfInBounds 1 (rawInt 1))).objs.size)) { s with heap := h' }
  simp only [es] at g1 g2 g3 ⊢
  exact hQ h' g1 g2 g3 fun b o hb e => g4 b o hb ((sb.2 b hb).trans e)
theorem comb_step {it pl : Addr} {last : Value} {items : List Value} {ix jx : List Nat} {Q : Option Value → Shared → Prop} (hit : IsComb s.heap it pl 1 last ix) (hpl : IsPool s.heap pl items) (hsz : jx.length ≤ sizeLine) (hn : nxt items.length ix = some jx)
    (hQ : ∀ h', IsComb h' it pl 1 (.ref s.heap.objs.size) jx → h'.get? s.heap.objs.size = some (poolO (rowOf items jx)) → h'.objs.size = s.heap.objs.size + 1 → (∀ b o, b ≠ it → s.heap.get? b = some o → h'.get? b = some o) → Q (some (.ref s.heap.objs.size)) { s with heap := h' }) :
    wpAny (model prog w) A (pyNext (.ref it)) Q E s := by
  have hT : s.TypeIs (.ref it) "itertools.combinations" := ⟨_, hit, rfl⟩
  have hne : pl ≠ it := fun q => by rw [q] at hpl; exact absurd (Value.type.inj (congrArg Obj.cls (Option.some.inj (hit.symm.trans hpl)))) (by decide)
  unfold pyNext
  refine wpAny_bind (wpAny_attempt (wpAny_callSpecial?_slot (name := Str.ofString "__next__") hT slot_comb_next (wpAny_call_entry slot_comb_next hT entry_comb_next ?_ (args_comb_next _))))
  show wpAny _ _ (field (.ref it) 0 >>= _) _ _ s
  refine wpAny_bind (wpAny_field hit rfl (x := .ref pl) rfl ?_)
  refine wpAny_bind (wp_numbers hit ?_)
  show wpAny _ _ (Builtin.Itertools.itIntField (Value.ref it) 1 >>= _) _ _ s
  refine wpAny_bind ?_
  unfold Builtin.Itertools.itIntField
  refine wpAny_bind (wpAny_field hit rfl (x := .int 1 0) rfl ?_)
  refine wpAny_pure ?_
  show wpAny _ _ (Builtin.Itertools.itPoolItems (Value.ref pl) >>= _) _ _ s
  refine wpAny_bind ?_
  unfold Builtin.Itertools.itPoolItems
  refine wpAny_bind ?_
  show wpAny _ _ (load pl >>= _) _ _ s
  refine wpAny_bind (wpAny_load hpl ?_)
  refine wpAny_pure (wpAny_pure ?_)
  show wpAny _ _ (match nxt items.toArray.size ix with | some next => _ | none => _) _ _ _
  rw [List.size_toArray, hn]
  show wpAny _ _ (Builtin.Itertools.itSetNumbersFrom (Value.ref it) 3 jx >>= _) _ _ s
  refine wpAny_bind ?_
  unfold Builtin.Itertools.itSetNumbersFrom
  have z : sizeLine = 16777216 := sizeLine_eq
  refine wpAny_updateFields hit rfl ?_ ?_
  · have sb := Heap.SameBut.update (h := s.heap) it (Obj.mapFields fun fs => fs.extract 0 3 ++ (List.map (fun (n : Nat) => rawInt n) jx).toArray)
    have hit1 : IsComb (s.heap.update it (Obj.mapFields fun fs => fs.extract 0 3 ++ (List.map (fun (n : Nat) => rawInt n) jx).toArray)) it pl 1 last jx := by
      refine Eq.trans (Heap.get?_update_self _ hit rfl) ?_
      simp [Obj.mapFields, combO, rawInt]
    have hpl1 : IsPool (s.heap.update it (Obj.mapFields fun fs => fs.extract 0 3 ++ (List.map (fun (n : Nat) => rawInt n) jx).toArray)) pl items := (sb.2 pl hne).trans hpl
    refine wp_handOut (s := { s with heap := s.heap.update it (Obj.mapFields fun fs => fs.extract 0 3 ++ (List.map (fun (n : Nat) => rawInt n) jx).toArray) }) (Q := fun v s' => wpAny (model prog w) A (pure (some v)) Q E s') hit1 hpl1 hsz fun h' g1 g2 g3 g4 => ?_
    have es : (s.heap.update it (Obj.mapFields fun fs => fs.extract 0 3 ++ (List.map (fun (n : Nat) => rawInt n) jx).toArray)).objs.size = s.heap.objs.size := sb.1
    refine wpAny_pure ?_
    show Q (some (.ref (s.heap.update it (Obj.mapFields fun fs => fs.extract 0 3 ++ (List.map (fun (n : Nat) => rawInt n) jx).toArray)).objs.size)) { s with heap := h' }
    simp only [es] at g1 g2 g3 ⊢
    exact hQ h' g1 g2 g3 fun b o hb e => g4 b o hb ((sb.2 b hb).trans e)
  · show ((([Value.ref pl, .int 1 0, last] ++ ix.map fun (i : Nat) => rawInt i).toArray).extract 0 3 ++ (List.map (fun (n : Nat) => rawInt n) jx).toArray).size ≤ sizeLine + 3
    rw [Array.size_append]
    have a : ((([Value.ref pl, .int 1 0, last] ++ ix.map fun (i : Nat) => rawInt i).toArray).extract 0 3).size ≤ 3 := by rw [Array.size_extract]; omega
    have b : (List.map (fun (n : Nat) => rawInt n) jx).toArray.size = jx.length := by rw [List.size_toArray, List.length_map]
    omega
/-- the end, met for the first time -/
theorem comb_end {it pl : Addr} {last : Value} {items : List Value} {ix : List Nat} {Q : Option Value → Shared → Prop} (hh : A.handled = none) (hit : IsComb s.heap it pl 1 last ix) (hpl : IsPool s.heap pl items) (hn : nxt items.length ix = none)
    (hQ : ∀ h', Heap.ExtBut it s.heap h' → Q none { s with heap := h' }) : wpAny (model prog w) A (pyNext (.ref it)) Q E s := by
  have hT : s.TypeIs (.ref it) "itertools.combinations" := ⟨_, hit, rfl⟩
  have hh1 : A.in1.handled = none := hh
  unfold pyNext
  refine wpAny_bind (wpAny_attempt (wpAny_callSpecial?_slot (name := Str.ofString "__next__") hT slot_comb_next (wpAny_call_entry slot_comb_next hT entry_comb_next ?_ (args_comb_next _))))
  show wpAny _ _ (field (.ref it) 0 >>= _) _ _ s
  refine wpAny_bind (wpAny_field hit rfl (x := .ref pl) rfl ?_)
  refine wpAny_bind (wp_numbers hit ?_)
  show wpAny _ _ (Builtin.Itertools.itIntField (Value.ref it) 1 >>= _) _ _ s
  refine wpAny_bind ?_
  unfold Builtin.Itertools.itIntField
  refine wpAny_bind (wpAny_field hit rfl (x := .int 1 0) rfl ?_)
  refine wpAny_pure ?_
  show wpAny _ _ (Builtin.Itertools.itPoolItems (Value.ref pl) >>= _) _ _ s
  refine wpAny_bind ?_
  unfold Builtin.Itertools.itPoolItems
  refine wpAny_bind ?_
  show wpAny _ _ (load pl >>= _) _ _ s
  refine wpAny_bind (wpAny_load hpl ?_)
  refine wpAny_pure (wpAny_pure ?_)
  show wpAny _ _ (match nxt items.toArray.size ix with | some next => _ | none => _) _ _ _
  rw [List.size_toArray, hn]
  show wpAny _ _ (setField (Value.ref it) 1 (rawInt 2) >>= _) _ _ s
  refine wpAny_bind (wpAny_setField hit rfl (by simp) ?_)
  have sb := Heap.SameBut.update (h := s.heap) it (Obj.mapFields fun x => x.setIfInBounds 1 (rawInt 2))
  show wpAny _ _ (newExc (.type "StopIteration") [] >>= _) _ _ _
  refine wpAny_bind ?_
  simp only [newExc, newTuple]
  refine wpAny_bind (wpAny_newObj_type ?_ (by size_fits))
  refine wpAny_bind (m := firstArgMember _ _) (wpAny_of_eq (a := Value.none) (by first | rfl | (simp only [firstArgMember]; rfl)) ?_)
  refine wpAny_newObj_type ?_ (by size_fits)
  simp only [raiseNew]
  refine wpAny_bind (wpAny_handled ?_)
  first | rw [hh1] | rw [hh]
  refine wpAny_bind (wpAny_pure (wpAny_throw ?_))
  refine wpAny_bind (wpAny_isInstance (T := "StopIteration") (b := true) ⟨_, Heap.get?_push_size _ rfl, rfl⟩ isSubtype_stop ?_)
  refine wpAny_pure (hQ _ fun b o hb e => ?_)
  exact Heap.get?_push_of_some _ (Heap.get?_push_of_some _ ((sb.2 b hb).trans e))
/-- a length beyond the items: nothing at all -/
theorem comb_none {it pl : Addr} {last : Value} {items : List Value} {ix : List Nat} {Q : Option Value → Shared → Prop} (hh : A.handled = none) (hit : IsComb s.heap it pl 2 last ix)
    (hQ : ∀ h', Heap.ExtBut it s.heap h' → Q none { s with heap := h' }) : wpAny (model prog w) A (pyNext (.ref it)) Q E s := by
  have hT : s.TypeIs (.ref it) "itertools.combinations" := ⟨_, hit, rfl⟩
  have hh1 : A.in1.handled = none := hh
  unfold pyNext
  refine wpAny_bind (wpAny_attempt (wpAny_callSpecial?_slot (name := Str.ofString "__next__") hT slot_comb_next (wpAny_call_entry slot_comb_next hT entry_comb_next ?_ (args_comb_next _))))
  show wpAny _ _ (field (.ref it) 0 >>= _) _ _ s
  refine wpAny_bind (wpAny_field hit rfl (x := .ref pl) rfl ?_)
  refine wpAny_bind (wp_numbers hit ?_)
  show wpAny _ _ (Builtin.Itertools.itIntField (Value.ref it) 1 >>= _) _ _ s
  refine wpAny_bind ?_
  unfold Builtin.Itertools.itIntField
  refine wpAny_bind (wpAny_field hit rfl (x := .int 2 0) rfl ?_)
  refine wpAny_pure ?_
  show wpAny _ _ (rule _ >>= _) _ _ _
  refine wpAny_bind (wpAny_rule ?_)
  show wpAny _ _ (newExc (.type "StopIteration") [] >>= _) _ _ _
  refine wpAny_bind ?_
  simp only [newExc, newTuple]
  refine wpAny_bind (wpAny_newObj_type ?_ (by size_fits))
  refine wpAny_bind (m := firstArgMember _ _) (wpAny_of_eq (a := Value.none) (by first | rfl | (simp only [firstArgMember]; rfl)) ?_)
  refine wpAny_newObj_type ?_ (by size_fits)
  simp only [raiseNew]
  refine wpAny_bind (wpAny_handled ?_)
  first | rw [hh1] | rw [hh]
  refine wpAny_bind (wpAny_pure (wpAny_throw ?_))
  refine wpAny_bind (wpAny_isInstance (T := "StopIteration") (b := true) ⟨_, Heap.get?_push_size _ rfl, rfl⟩ isSubtype_stop ?_)
  refine wpAny_pure (hQ _ fun b o hb e => ?_)
  exact Heap.get?_push_of_some _ (Heap.get?_push_of_some _ e)
theorem comb_iter {it pl : Addr} {st : Int} {last : Value} {ix : List Nat} {Q : Value → Shared → Prop} (hit : IsComb s.heap it pl st last ix) (h : Q (.ref it) s) : wpAny (model prog w) A (pyIter (.ref it)) Q E s := by
  have hT : s.TypeIs (.ref it) "itertools.combinations" := ⟨_, hit, rfl⟩
  refine wpAny_pyIter_slot hT slot_comb_iter (wpAny_call_entry slot_comb_iter hT entry_comb_iter ?_ (args_comb_iter _))
  show wpAny _ _ (ret (.ref it)) _ _ s
  exact wpAny_pure ⟨_, rfl, "itertools.combinations", _, hT, slot_comb_next.lookup, h⟩
end
end CpComb
set_option Elab.async false
set_option linter.all false
set_option maxRecDepth 100000
set_option maxHeartbeats 2000000
namespace L2
open PySem PySem.Spec PyProof.Rows CpComb
/-- the rows of places that combinations(x, r) of n items goes through -/
structure Chain (n r : Nat) (rows : List (List Nat)) : Prop where
  len : ∀ ix ∈ rows, ix.length ≤ sizeLine
  emp : n < r → rows = []
  first : r ≤ n → rows[0]? = some (List.range r)
  step : ∀ (i : Nat) ix, rows[i]? = some ix → nxt n ix = rows[i + 1]?
def rowV (xs : List V) (ix : List Nat) : List V := ix.map fun i => xs.getD i .non
theorem rowV_rel {xs : List V} {items : List Value} (r : Vals xs items) : ∀ ix : List Nat, Vals (rowV xs ix) (rowOf items ix)
  | [] => .nil
  | i :: l => by
    refine .cons ?_ (rowV_rel r l)
    show RelV (xs.getD i .non) (items.toArray.getD i .none)
    have e : items.toArray.getD i .none = items.getD i .none := by
      simp [Array.getD, List.getD]
      split <;> simp_all
    rw [e]
    cases h : xs[i]? with
    | none =>
      have h2 := r.none_of h
      rw [List.getD_eq_getElem?_getD, List.getD_eq_getElem?_getD, h, h2]
      rfl
    | some x =>
      obtain ⟨u, hu, ru⟩ := r.get h
      rw [List.getD_eq_getElem?_getD, List.getD_eq_getElem?_getD, h, hu]
      exact ru
/-- at turn i a new tuple of the i-th row -/
def Itcb (xs : List V) (rows : List (List Nat)) : It :=
  ⟨fun i _ => i < rows.length, fun i H v H' => ∃ T ix, v = .ref T ∧ H T = none ∧ H' = upd H T (.tup (rowV xs ix)) ∧ rows[i]? = some ix, fun i _ => rows.length ≤ i⟩
def CombTn (n r : Nat) (rows : List (List Nat)) (items : List Value) (it pl : Addr) (i : Nat) (h : Heap) : Prop :=
  IsPool h pl items ∧ ((i = 0 ∧ IsComb h it pl (if r > n then 2 else 0) .none (List.range r)) ∨ ∃ j last ix, i = j + 1 ∧ rows[j]? = some ix ∧ IsComb h it pl 1 last ix)
theorem go_comb {M : Model} {A : Around} {E : Value → Shared → Prop} {s : Shared} {tg : Expr} {it pl : Addr} {st : Int} {last : Value} {ix : List Nat} {u : Value} {Q : Unit → Shared → Prop} (hit : IsComb s.heap it pl st last ix) (hQ : Q () s) : wpAny M A (letOwnedTupleGo tg (.ref it) u) Q E s :=
  go_of hit rfl rfl (by decide) hQ
theorem turn_comb {P : Program} {w : World} {K : PySem.W.Frag} {tg : Expr} {it pl : Addr} {xs : List V} {items : List Value} {r : Nat} {rows : List (List Nat)} (hne : pl ≠ it) (rv : Vals xs items) (hr : r ≤ 1000) (ch : Chain items.length r rows) :
    Turn P w K tg (Itcb xs rows) [it, pl] it (CombTn items.length r rows items it pl) where
  mem := by simp
  obj := fun i h st c hc => by
    obtain ⟨hp, hi⟩ := st
    have e' : c = it ∨ c = pl := by simpa using hc
    rcases e' with q | q
    · rw [q]
      rcases hi with ⟨_, hi⟩ | ⟨_, _, _, _, _, hi⟩
      · exact ⟨_, hi, fun v q => nomatch q⟩
      · exact ⟨_, hi, fun v q => nomatch q⟩
    · rw [q]; exact ⟨_, hp, fun v q => nomatch q⟩
  keep := fun i h h' st k => by
    obtain ⟨hp, hi⟩ := st
    refine ⟨k pl (by simp) _ hp, ?_⟩
    rcases hi with ⟨e, hi⟩ | ⟨j, last, ix, e, g, hi⟩
    · exact .inl ⟨e, k it (by simp) _ hi⟩
    · exact .inr ⟨j, last, ix, e, g, k it (by simp) _ hi⟩
  item := by
    intro X hP hw hK hc i pins s σ H E I hf st hg
    subst hP hw hK
    obtain ⟨hp, hi⟩ := st
    have hg' : i < rows.length := hg
    have fin : ∀ (h' : Heap) (ix : List Nat), rows[i]? = some ix → IsComb h' it pl 1 (.ref s.heap.objs.size) ix → h'.get? s.heap.objs.size = some (poolO (rowOf items ix)) → h'.objs.size = s.heap.objs.size + 1 → (∀ b o, b ≠ it → s.heap.get? b = some o → h'.get? b = some o) → it < s.heap.objs.size →
        ∃ u, some (Value.ref s.heap.objs.size) = some u ∧ wpAny (model X.prog X.w) X.A (letOwnedTupleGo tg (.ref it) u) (fun _ s2 => ∃ x H', Inv X pins σ H' s2 ∧ RelV x u ∧ (Itcb xs rows).yld i H x H' ∧ CombTn items.length r rows items it pl (i + 1) s2.heap ∧ ∀ b ∈ [it, pl], H' b = none) E { s with heap := h' } := by
      intro h' ix hx g1 g2 g3 g4 hlt
      have new : ObjOk X.prog X.w (upd H s.heap.objs.size (.tup (rowV xs ix))) h' s.heap.objs.size (.tup (rowV xs ix)) :=
        ⟨by rw [rowV, List.length_map]; exact ch.len ix (List.mem_of_getElem? hx), rowOf items ix, rowV_rel rv ix, ⟨_, g2, rfl, _, rfl⟩⟩
      have I1 : Inv X pins σ (upd H s.heap.objs.size (.tup (rowV xs ix))) { s with heap := h' } :=
        I.turnedNew (t' := s.toks) (ch := [it]) (fun c o hb q => g4 c o (by simpa using hb) q) (fun b hb => hf b (by simp at hb; simp [hb])) (Nat.le_refl _) new
      refine ⟨_, rfl, go_comb (s := { s with heap := h' }) g1 ⟨.ref s.heap.objs.size, _, I1, rfl, ⟨_, ix, rfl, I.hok.fresh (Nat.le_refl _), rfl, hx⟩, ⟨g4 pl _ hne hp, .inr ⟨i, _, ix, rfl, hx, g1⟩⟩, fun b hb => ?_⟩⟩
      have hbl : b < s.heap.objs.size := by
        have e' : b = it ∨ b = pl := by simpa using hb
        rcases e' with q | q
        · rw [q]; exact hlt
        · rw [q]; exact Heap.lt_size hp
      rw [upd_ne (Nat.ne_of_lt hbl)]
      exact (hf b hb).1
    rcases hi with ⟨e, hi⟩ | ⟨j, last, ix, e, g, hi⟩
    · subst e
      have hrn : r ≤ items.length := by
        by_cases hq : items.length < r
        · rw [ch.emp hq] at hg'; exact absurd hg' (Nat.not_lt_zero _)
        · omega
      rw [if_neg (by omega)] at hi
      have h0 := ch.first hrn
      exact comb_first hi hp (ch.len _ (List.mem_of_getElem? h0)) fun h' g1 g2 g3 g4 => fin h' _ h0 g1 g2 g3 g4 (Heap.lt_size hi)
    · subst e
      have hx : rows[j + 1]? = some rows[j + 1] := List.getElem?_eq_getElem hg'
      exact comb_step hi hp (ch.len _ (List.mem_of_getElem? hx)) ((ch.step j ix g).trans hx) fun h' g1 g2 g3 g4 => fin h' _ hx g1 g2 g3 g4 (Heap.lt_size hi)
  done := by
    intro X hP hw hK hc i pins s σ H E I hf st hg
    subst hP hw hK
    obtain ⟨hp, hi⟩ := st
    have hg' : rows.length ≤ i := hg
    have fin : ∀ h', Heap.ExtBut it s.heap h' → (none : Option Value) = none ∧ Inv X pins σ H { s with heap := h' } := fun h' eb =>
      ⟨rfl, I.turnedL (t' := s.toks) (ch := [it]) (fun c o hb q => eb c o (by simpa using hb) q) (fun b hb => hf b (by simp at hb; simp [hb]))⟩
    rcases hi with ⟨e, hi⟩ | ⟨j, last, ix, e, g, hi⟩
    · subst e
      have hrn : items.length < r := by
        by_cases hq : r ≤ items.length
        · have h0 := ch.first hq
          have := (List.getElem?_eq_some_iff.mp h0).1
          omega
        · omega
      rw [if_pos hrn] at hi
      exact comb_none (items := items) (I.ok.hd hc) hi fin
    · subst e
      refine comb_end (I.ok.hd hc) hi hp ?_ fin
      rw [ch.step j ix g]
      exact List.getElem?_eq_none hg'
  self := fun A i s Q E st h => by
    obtain ⟨hp, hi⟩ := st
    rcases hi with ⟨_, hi⟩ | ⟨_, _, _, _, _, hi⟩
    · exact comb_iter hi h
    · exact comb_iter hi h
/-- what combinations takes: a text (its signs), a list, a tuple -/
def Src (K : PySem.W.Frag) (H : Hp) (x : V) (xs : List V) : Prop :=
  match x with
  | .str z => z.cps.size ≤ sizeLine ∧ xs = z.cps.toList.map fun c => V.str ⟨#[c]⟩
  | .ref a => SqL K H a xs ∨ SqT K H a xs
  | _ => False
theorem collect_src {X : Cx} {pins : List (Addr × Obj)} {σ : St} {H : Hp} {s : Shared} {A : Around} {x : V} {u : Value} {xs : List V} {Q : List Value → Shared → Prop} {E : Value → Shared → Prop} (hh : A.handled = none) (I : Inv X pins σ H s) (rx : RelV x u) (h : Src X.K H x xs)
    (hq : ∀ items s1, Inv X pins σ H s1 → Vals xs items → items.length ≤ sizeLine → Q items s1) : wpAny (model X.prog X.w) A (collect u) Q E s := by
  cases x with
  | str z =>
    obtain ⟨t, rfl⟩ := rx
    obtain ⟨hz, rfl⟩ := h
    refine wpAny_collect_str hh z t (fun s' acc k g1 g2 g3 hacc => ?_) hz
    have e : s' = { s with heap := s'.heap, toks := s'.toks } := by
      cases s'; cases s; simp_all
    rw [e]
    refine hq _ _ (I.kept k) ?_ (by rw [Array.length_toList, hacc.1]; exact hz)
    -- the signs
    obtain ⟨hs, ha⟩ := hacc
    have main : ∀ (l : List Nat) (us : List Value), us.length = l.length → (∀ (j : Nat) (v : Value), us[j]? = some v → ∃ (c : Nat) (t : Tok), l[j]? = some c ∧ v = Value.str ⟨#[c]⟩ t) → Vals (l.map fun c => V.str ⟨#[c]⟩) us := by
      intro l
      induction l with
      | nil =>
        intro us hl _
        cases us with
        | nil => exact .nil
        | cons a b => cases hl
      | cons c l ih =>
        intro us hl hj
        cases us with
        | nil => cases hl
        | cons a b =>
          obtain ⟨c', t', e1, e2⟩ := hj 0 a rfl
          cases e1
          subst e2
          exact .cons ⟨t', rfl⟩ (ih b (Nat.succ.inj hl) fun j v hv => hj (j + 1) v hv)
    refine main _ _ (by rw [Array.length_toList, hs, Array.length_toList]) fun j v hv => ?_
    obtain ⟨c, t', e1, e2⟩ := ha j v (by simpa using hv)
    exact ⟨c, t', by simpa using e1, e2⟩
  | ref a =>
    obtain rfl : u = Value.ref a := rx
    rcases h with h | h
    · obtain ⟨its, rv, ⟨o, n, ho, hc, hn, hd⟩, hz⟩ := I.list h
      have hz' : its.toArray.size ≤ sizeLine := by rw [List.size_toArray, ← rv.length]; exact hz
      refine wpAny_collect_seq a (.inl rfl) ho hc hd (fun h' k => ?_) hz'
      exact hq _ _ (I.kept (t' := s.toks) k) rv (by rw [List.toList_toArray, ← rv.length]; exact hz)
    · obtain ⟨its, rv, ⟨o, ho, hc, n, hd⟩, hz⟩ := I.tuple h
      have hz' : its.toArray.size ≤ sizeLine := by rw [List.size_toArray, ← rv.length]; exact hz
      refine wpAny_collect_seq a (.inr rfl) ho hc hd (fun h' k => ?_) hz'
      exact hq _ _ (I.kept (t' := s.toks) k) rv (by rw [List.toList_toArray, ← rv.length]; exact hz)
  | _ => exact h.elim
def iComb (K : PySem.W.Frag) (ta : TA) : TI := fun σ H R => ta σ H fun vs H1 => ∃ (x : V) (r : Nat) (xs : List V) (rows : List (List Nat)), vs = [x, .int r] ∧ r ≤ 1000 ∧ Src K H1 x xs ∧ Chain xs.length r rows ∧ R (Itcb xs rows) H1
theorem pi_comb {X : Cx} {tg e e2 : Expr} {ta : TA} {p pos : Pos} (hc : X.calm = true) (hg : Gl X "combinations") (hm : X.mg "combinations" = some (.type "itertools.combinations")) (ha : PA X [e, e2] ta)
    (hs : starEach [e, e2] X.env = (false, eval e X.env) :: starEach [e2] X.env := by rfl) (hpl : (backTo pos (starEach [e2] X.env)).any (·.1) = false := by rfl) :
    PI X tg (.Call (.Name "combinations" p) [e, e2] [] pos) (iComb X.K ta) := by
  refine ⟨fun pins s σ H R I h => ?_⟩
  refine Call_ (ld_glob I hg hm (PyProof.Rows.callWith_type1 (thn (ha.run pos pins s σ H _ I h) fun us s1 ⟨vs, H1, I1, r1, q1⟩ => ?_) hs hpl))
  obtain ⟨x, r, xs, rows, ex, hr, hsrc, ch, q⟩ := q1
  subst ex
  cases r1 with
  | cons rx rr =>
    cases rr with
    | cons ri rr =>
      cases rr
      obtain ⟨t, rfl⟩ := ri
      refine call_comb hr (collect_src (I1.ok.hd hc) I1 rx hsrc fun items s2 I2 rv hz => ⟨hz, fun h' hp hit hsz hk => ?_⟩)
      have hl : xs.length = items.length := rv.length
      have I3 : Inv X pins σ H1 { s2 with heap := h' } := I2.kept (t' := s2.toks) hk
      refine comb_iter hit ?_
      refine ⟨s2.heap.objs.size + 1, [s2.heap.objs.size + 1, s2.heap.objs.size], _, _, H1, rfl, I3, turn_comb (by simp) rv hr (hl ▸ ch), ⟨hp, .inl ⟨rfl, hit⟩⟩, fun c hcm => ?_, q⟩
      have e' : c = s2.heap.objs.size + 1 ∨ c = s2.heap.objs.size := by simpa using hcm
      have hle : s2.heap.objs.size ≤ c := by
        rcases e' with z | z
        · rw [z]; exact Nat.le_add_right _ _
        · rw [z]; exact Nat.le_refl _
      exact I2.fpOk hle (I2.hok.fresh hle)
theorem walk_comb {xs : List V} {rows : List (List Nat)} : Walk (Itcb xs rows) rows.length (fun _ => True) (fun i H v H' => ∃ T ix, v = .ref T ∧ H T = none ∧ H' = upd H T (.tup (rowV xs ix)) ∧ rows[i]? = some ix) :=
  ⟨fun _ _ hi _ => hi, fun _ _ => Nat.le_refl _, fun _ _ _ _ _ _ y => y⟩
/-! ### the rows themselves -/
def combIx : Nat → List Nat → List (List Nat)
  | 0, _ => [[]]
  | _ + 1, [] => []
  | r + 1, a :: l => (combIx r l).map (a :: ·) ++ combIx (r + 1) l
def chainB (n r : Nat) (rows : List (List Nat)) : Bool :=
  rows.all (fun ix => decide (ix.length ≤ 1000)) && (if n < r then rows.isEmpty else decide (rows[0]? = some (List.range r))) && (List.range rows.length).all fun i => decide (nxt n (rows.getD i []) = rows[i + 1]?)
theorem chain_of {n r : Nat} {rows : List (List Nat)} (h : chainB n r rows = true) : Chain n r rows := by
  unfold chainB at h
  rw [Bool.and_eq_true, Bool.and_eq_true] at h
  obtain ⟨⟨h1, h2⟩, h3⟩ := h
  refine ⟨fun ix hx => ?_, fun hn => ?_, fun hn => ?_, fun i ix hx => ?_⟩
  · have := List.all_eq_true.mp h1 ix hx
    have z : sizeLine = 16777216 := sizeLine_eq
    have := of_decide_eq_true this
    omega
  · rw [if_pos hn] at h2
    exact List.isEmpty_iff.mp h2
  · rw [if_neg (by omega)] at h2
    exact of_decide_eq_true h2
  · have hl := (List.getElem?_eq_some_iff.mp hx).1
    have := of_decide_eq_true (List.all_eq_true.mp h3 i (List.mem_range.mpr hl))
    rw [List.getD_eq_getElem?_getD, hx] at this
    exact this
theorem chain7_all : ((List.range 8).all fun n => (List.range 9).all fun r => chainB n r (combIx r (List.range n))) = true := by decide +kernel
theorem chain7 {n r : Nat} (hn : n ≤ 7) (hr : r ≤ 8) : Chain n r (combIx r (List.range n)) :=
  chain_of (List.all_eq_true.mp (List.all_eq_true.mp chain7_all n (List.mem_range.mpr (by omega))) r (List.mem_range.mpr (by omega)))
end L2
set_option Elab.async false
set_option linter.all false
set_option maxRecDepth 100000
set_option maxHeartbeats 2000000
namespace Nf
open PySem PySem.Spec PyProof.Rows L2
/-! ### texts as lists of code points -/
def tx (l : List Nat) : Str := ⟨l.toArray⟩
theorem tx_toList (l : List Nat) : (tx l).cps.toList = l := by simp [tx]
theorem tx_size (l : List Nat) : (tx l).cps.size = l.length := by simp [tx]
theorem tx_length (l : List Nat) : (tx l).length = l.length := by rw [TL.len_tl]; show (tx l).cps.toList.length = _; rw [tx_toList]
theorem tx_inj {l m : List Nat} (h : tx l = tx m) : l = m := by
  have := congrArg (fun s : Str => s.cps.toList) h
  simpa only [tx_toList] using this
theorem tx_get (l : List Nat) (i : Nat) : (tx l).cps[i]? = l[i]? := by simp [tx]
theorem tx_one (c : Nat) : (⟨#[c]⟩ : Str) = tx [c] := rfl
theorem tx_append (l m : List Nat) : tx l ++ tx m = tx (l ++ m) := by
  apply TL.ext_tl
  rw [TL.tl_append]
  show (tx l).cps.toList ++ (tx m).cps.toList = (tx (l ++ m)).cps.toList
  simp only [tx_toList]
theorem joinL_nil : ∀ ls : List (List Nat), TL.joinL [] ls = ls.flatten
  | [] => rfl
  | [p] => by simp [TL.joinL]
  | p :: q :: r => by
    show p ++ ([] ++ TL.joinL [] (q :: r)) = _
    rw [joinL_nil (q :: r)]
    simp
theorem tx_join (ls : List (List Nat)) : Txt.join (tx []) (ls.map tx) = tx ls.flatten := by
  rw [TL.join_eq]
  apply TL.ext_tl
  rw [TL.tl_join]
  have e1 : (TL.tl (tx [])) = [] := tx_toList []
  have e2 : (ls.map tx).map TL.tl = ls := by
    rw [List.map_map]
    have : (TL.tl ∘ tx) = id := funext fun l => tx_toList l
    rw [this, List.map_id]
  rw [e1, e2, joinL_nil]
  exact (tx_toList _).symm
theorem dec_tx (l m : List Nat) : decide (V.str (tx l) = V.str (tx m)) = decide (l = m) := by
  by_cases h : l = m
  · subst h; simp
  · rw [decide_eq_false h, decide_eq_false]
    intro e
    injection e with e
    exact h (tx_inj e)
theorem sum_len (ls : List (List Nat)) : ((ls.map tx).map (·.length)).sum = ls.flatten.length := by
  induction ls with
  | nil => rfl
  | cons a l ih =>
    rw [List.map_cons, List.map_cons, List.sum_cons, ih, tx_length, List.flatten_cons, List.length_append]
/-- the values of texts -/
def vtx (ls : List (List Nat)) : List V := ls.map fun l => V.str (tx l)
theorem vtx_eq (ls : List (List Nat)) : vtx ls = (ls.map tx).map V.str := by rw [vtx, List.map_map]; rfl
/-- the signs of a text -/
def vsg (l : List Nat) : List V := l.map fun c => V.str (tx [c])
/-! ### what may change in a heap: M tells the places that move, and what stays true of them -/
abbrev Mv := Addr → Option (HO → Prop)
def m0 : Mv := fun _ => none
def Ext (M : Mv) (H H' : Hp) : Prop := ∀ a, match M a with
  | none => ∀ o, H a = some o → H' a = some o
  | some g => ∀ o, H a = some o → g o → ∃ o', H' a = some o' ∧ g o'
theorem Ext.refl (M : Mv) (H : Hp) : Ext M H H := fun a => by
  cases e : M a with
  | none => exact fun o h => h
  | some g => exact fun o h k => ⟨o, h, k⟩
theorem Ext.trans {M : Mv} {H H1 H2 : Hp} (a : Ext M H H1) (b : Ext M H1 H2) : Ext M H H2 := fun x => by
  have a := a x
  have b := b x
  cases e : M x with
  | none => rw [e] at a b; exact fun o h => b o (a o h)
  | some g =>
    rw [e] at a b
    intro o h k
    obtain ⟨o1, h1, k1⟩ := a o h k
    exact b o1 h1 k1
theorem Ext.at {M : Mv} {H H' : Hp} (e : Ext M H H') {a : Addr} {o : HO} (hm : M a = none) (h : H a = some o) : H' a = some o := by
  have z := e a
  rw [hm] at z
  exact z o h
theorem Ext.live {M : Mv} {H H' : Hp} (e : Ext M H H') {a : Addr} {g : HO → Prop} {o : HO} (hm : M a = some g) (h : H a = some o) (k : g o) : ∃ o', H' a = some o' ∧ g o' := by
  have z := e a
  rw [hm] at z
  exact z o h k
abbrev Sm := Ext m0
theorem Sm.at {H H' : Hp} (e : Sm H H') {a : Addr} {o : HO} (h : H a = some o) : H' a = some o := e a o h
theorem Sm.of {H H' : Hp} (e : ∀ a o, H a = some o → H' a = some o) : Sm H H' := e
theorem Sm.seqL {K : PySem.W.Frag} {H H' : Hp} {a : Addr} {xs : List V} (e : Sm H H') (h : SqL K H a xs) : SqL K H' a xs := by
  rcases h with (h | ⟨o, h⟩) | h
  · exact .inl (.inl (e a _ h))
  · exact .inl (.inr ⟨o, e a _ h⟩)
  · exact .inr h
theorem Sm.seqT {K : PySem.W.Frag} {H H' : Hp} {a : Addr} {xs : List V} (e : Sm H H') (h : SqT K H a xs) : SqT K H' a xs := by
  rcases h with (h | ⟨o, h⟩) | h
  · exact .inl (.inl (e a _ h))
  · exact .inl (.inr ⟨o, e a _ h⟩)
  · exact .inr h
theorem Sm.ext {M : Mv} {H H' : Hp} (e : Sm H H') : Ext M H H' := fun a => by
  have z : ∀ o, H a = some o → H' a = some o := e a
  cases q : M a with
  | none => exact z
  | some g => exact fun o h k => ⟨o, z o h, k⟩
theorem Ext.new {M : Mv} {H : Hp} {p : Addr} {o : HO} (h : H p = none) : Ext M H (upd H p o) :=
  Sm.ext fun a u e => by rw [upd_ne (ne_of_none e h)]; exact e
theorem Ext.mut {M : Mv} {H H' : Hp} {p : Addr} {o : HO} (e : Ext M H H') (h : H p = none) : Ext M H (upd H' p o) := fun a => by
  have z := e a
  cases q : M a with
  | none =>
    rw [q] at z
    intro u hu
    rw [upd_ne (ne_of_none hu h)]
    exact z u hu
  | some g =>
    rw [q] at z
    intro u hu k
    rw [upd_ne (ne_of_none hu h)]
    exact z u hu k
theorem Ext.fresh {M : Mv} {H H' : Hp} {p : Addr} (e : Ext M H H') (hm : M p = none) (h : H' p = none) : H p = none := by
  cases q : H p with
  | none => rfl
  | some o => rw [e.at hm q] at h; cases h
/-- the moving places stand -/
def Live (M : Mv) (H : Hp) : Prop := ∀ a g, M a = some g → ∃ o, H a = some o ∧ g o
theorem Live.m0 (H : Hp) : Live m0 H := fun a g h => nomatch h
theorem Live.ext {M : Mv} {H H' : Hp} (l : Live M H) (e : Ext M H H') : Live M H' := fun a g h => by
  obtain ⟨o, ho, k⟩ := l a g h
  exact e.live h ho k
theorem Live.off {M : Mv} {H : Hp} (l : Live M H) {p : Addr} (h : H p = none) : M p = none := by
  cases q : M p with
  | none => rfl
  | some g => obtain ⟨o, ho, _⟩ := l p g q; rw [ho] at h; cases h
/-! ### comprehensions and loops over anything that is walked -/
/-- behind i turns of a comprehension: the list at D, what is known -/
def LW (M : Mv) (H1 : Hp) (D : Addr) (I : Nat → List V → Hp → Prop) (i : Nat) (H : Hp) : Prop := Ext M H1 H ∧ ∃ L, H D = some (.lst L) ∧ L.length < 100000 ∧ I i L H
section
variable {J : It} {n : Nat} {G : Hp → Prop} {Y : Nat → Hp → V → Hp → Prop} {M : Mv} {H1 : Hp} {D : Addr} {I : Nat → List V → Hp → Prop}
/-- a turn that gives y -/
theorem LW.add {i : Nat} {H H4 : Hp} {L : List V} {y : V} (hD : H1 D = none) (hL : Live M H1) (e : Ext M H1 H) (hl : H D = some (.lst L)) (e4 : Ext M H H4) (hz : (L ++ [y]).length < 100000) (k : I (i + 1) (L ++ [y]) (upd H4 D (.lst (L ++ [y])))) :
    ∃ acc, H4 D = some (.lst acc) ∧ acc.length < sizeLine ∧ LW M H1 D I (i + 1) (upd H4 D (.lst (acc ++ [y]))) := by
  refine ⟨L, e4.at (hL.off hD) hl, ?_, (e.trans e4).mut hD, L ++ [y], upd_same, hz, k⟩
  rw [show sizeLine = 16777216 from sizeLine_eq]
  rw [List.length_append, List.length_singleton] at hz
  omega
/-- a turn that gives nothing -/
theorem LW.skip {i : Nat} {H H4 : Hp} {L : List V} (hD : H1 D = none) (hL : Live M H1) (e : Ext M H1 H) (hl : H D = some (.lst L)) (e4 : Ext M H H4) (hz : L.length < 100000) (k : I (i + 1) L H4) : LW M H1 D I (i + 1) H4 :=
  ⟨e.trans e4, L, e4.at (hL.off hD) hl, hz, k⟩
theorem lcx (w : Walk J n G Y) {g : TG} {tt : TT} {te : TE} {vs : List Nat} {σ : L2.St} {Qd : Hp → Prop} (hD : H1 D = none) (I : Nat → List V → Hp → Prop) (h0 : I 0 [] (upd H1 D (.lst [])))
    (hG : ∀ H, Ext M H1 H → G H)
    (hs : ∀ i x H H' L, i < n → Ext M H1 H → H D = some (.lst L) → L.length < 100000 → I i L H → Y i H x H' → g x (wipe σ vs) H' fun σ2 H2 => wipe σ2 vs = wipe σ vs ∧ tt σ2 H2 fun b H3 =>
      if b = true then te σ2 H3 fun y H4 => ∃ acc, H4 D = some (.lst acc) ∧ acc.length < sizeLine ∧ LW M H1 D I (i + 1) (upd H4 D (.lst (acc ++ [y]))) else LW M H1 D I (i + 1) H3)
    (hd : ∀ L H, Ext M H1 H → H D = some (.lst L) → I n L H → Qd H) :
    ∃ W : Nat → Nat → Hp → Prop, (∃ m, W 0 m (upd H1 D (.lst []))) ∧ ∀ i m H, W i m H →
      (J.stop i H ∧ Qd H) ∨ (J.go i H ∧ ∃ Nx : Hp → Prop, (∀ H', Nx H' → ∃ m', m' < m ∧ W (i + 1) m' H') ∧ ∀ x H', J.yld i H x H' → g x (wipe σ vs) H' fun σ2 H2 => wipe σ2 vs = wipe σ vs ∧ tt σ2 H2 fun b H3 =>
        if b = true then te σ2 H3 fun y H4 => ∃ acc, H4 D = some (.lst acc) ∧ acc.length < sizeLine ∧ Nx (upd H4 D (.lst (acc ++ [y]))) else Nx H3) := by
  refine lc_it w (LW M H1 D I) ⟨.new hD, [], upd_same, by decide, h0⟩ (fun i H _ p => hG H p.1) ?_ ?_
  · rintro i x H H' hi ⟨e, L, hL', hz, hI'⟩ hy
    exact hs i x H H' L hi e hL' hz hI' hy
  · rintro H ⟨e, L, h1, _, h2⟩
    exact hd L H e h1 h2
end
/-- a comprehension in which nothing moves and whose items are plain: f which turns give, v what -/
def giv (f : Nat → Bool) (v : Nat → V) : Nat → List V
  | 0 => []
  | i + 1 => if f i = true then giv f v i ++ [v i] else giv f v i
theorem giv_len (f : Nat → Bool) (v : Nat → V) : ∀ i, (giv f v i).length ≤ i
  | 0 => Nat.le_refl _
  | i + 1 => by
    have := giv_len f v i
    unfold giv
    split
    · rw [List.length_append, List.length_singleton]; omega
    · omega
theorem giv_list {α : Type} (xs : List α) (f : Nat → Bool) (v : Nat → V) (p : α → Bool) (q : α → V) (hf : ∀ (i : Nat) x, xs[i]? = some x → f i = p x) (hv : ∀ (i : Nat) x, xs[i]? = some x → p x = true → v i = q x) :
    ∀ i, i ≤ xs.length → giv f v i = ((xs.take i).filter p).map q
  | 0, _ => by rw [List.take_zero]; rfl
  | i + 1, h => by
    have ih := giv_list xs f v p q hf hv i (Nat.le_of_succ_le h)
    have hx : xs[i]? = some xs[i] := List.getElem?_eq_getElem h
    rw [List.take_add_one, hx, Option.toList_some, List.filter_append, List.map_append, ← ih]
    show (if f i = true then giv f v i ++ [v i] else giv f v i) = _
    rw [hf i _ hx]
    cases e : p xs[i] with
    | true =>
      rw [if_pos rfl, hv i _ hx e]
      simp [e]
    | false =>
      rw [if_neg Bool.false_ne_true]
      simp [e]
theorem lcp {J : It} {n : Nat} {G : Hp → Prop} {Y : Nat → Hp → V → Hp → Prop} (w : Walk J n G Y) {g : TG} {tt : TT} {te : TE} {vs : List Nat} {σ : L2.St} {H1 : Hp} {D : Addr} {Qd : Hp → Prop} (hD : H1 D = none) (hn : n < 90000) (f : Nat → Bool) (v : Nat → V)
    (hG : ∀ H, Sm H1 H → G H)
    (hs : ∀ i x H H', i < n → Sm H1 H → Y i H x H' → g x (wipe σ vs) H' fun σ2 H2 => wipe σ2 vs = wipe σ vs ∧ tt σ2 H2 fun b H3 => b = f i ∧
      if b = true then te σ2 H3 fun y H4 => Sm H H4 ∧ y = v i else Sm H H3)
    (tm : ∀ σ H (Q Q' : Bool → Hp → Prop), (∀ b H1, Q b H1 → Q' b H1) → tt σ H Q → tt σ H Q') (em : ∀ σ H (Q Q' : VK), (∀ v H1, Q v H1 → Q' v H1) → te σ H Q → te σ H Q') (gm : ∀ x σ H (Q Q' : L2.St → Hp → Prop), (∀ σ2 H1, Q σ2 H1 → Q' σ2 H1) → g x σ H Q → g x σ H Q')
    (hd : ∀ H, Sm H1 H → H D = some (.lst (giv f v n)) → Qd H) :
    ∃ W : Nat → Nat → Hp → Prop, (∃ m, W 0 m (upd H1 D (.lst []))) ∧ ∀ i m H, W i m H →
      (J.stop i H ∧ Qd H) ∨ (J.go i H ∧ ∃ Nx : Hp → Prop, (∀ H', Nx H' → ∃ m', m' < m ∧ W (i + 1) m' H') ∧ ∀ x H', J.yld i H x H' → g x (wipe σ vs) H' fun σ2 H2 => wipe σ2 vs = wipe σ vs ∧ tt σ2 H2 fun b H3 =>
        if b = true then te σ2 H3 fun y H4 => ∃ acc, H4 D = some (.lst acc) ∧ acc.length < sizeLine ∧ Nx (upd H4 D (.lst (acc ++ [y]))) else Nx H3) := by
  refine lcx w hD (fun i L _ => L = giv f v i ∧ i ≤ n) ⟨rfl, Nat.zero_le _⟩ hG ?_ ?_
  · rintro i x H H' L hi e hl hz ⟨rfl, _⟩ hy
    have gl := giv_len f v i
    refine gm _ _ _ _ _ (fun σ2 H2 q => ⟨q.1, ?_⟩) (hs i x H H' hi e hy)
    refine tm _ _ _ _ (fun b H3 q => ?_) q.2
    obtain ⟨eb, q⟩ := q
    cases b with
    | true =>
      rw [if_pos rfl] at q ⊢
      refine em _ _ _ _ (fun y H4 q => ?_) q
      have ey : giv f v i ++ [y] = giv f v (i + 1) := by rw [q.2]; show _ = if f i = true then _ else _; rw [← eb, if_pos rfl]
      refine LW.add hD (.m0 _) e hl q.1 ?_ ⟨ey, hi⟩
      rw [List.length_append, List.length_singleton]; omega
    | false =>
      rw [if_neg Bool.false_ne_true] at q ⊢
      refine LW.skip hD (.m0 _) e hl q hz ⟨?_, hi⟩
      show _ = if f i = true then _ else _
      rw [← eb, if_neg Bool.false_ne_true]
  · rintro L H e hl ⟨rfl, _⟩
    exact hd H e hl
end Nf
namespace Nf
open PySem PySem.Spec PyProof.Rows L2
/-! ### calls of defs by their promises -/
structure Can (P : Program) (w : World) (K : PySem.W.Frag) (mg : Str → Option Value) (base : Heap) (k : Nat) (x : Str) (st : Stmt) (ps : List Str) (sp : Sp) : Prop where
  ex : ∃ f fd, mg x = some (.ref f) ∧ Fun K x x st f fd ∧ Binds K fd ps [] ∧ FnOk P w K mg base CX0 k f fd ps sp
section
variable {X : Cx} {k : Nat} {x : Str} {st : Stmt} {ps : List Str} {sp : Sp} {p pos : Pos} {e : Expr} {es : List Expr} {t : TA}
theorem pe_can (c : Can X.prog X.w X.K X.mg X.base k x st ps sp) (hr : Room k X.A) (ha : PA X (e :: es) t) (hg : Gl X x := by rfl) (hdb : (x == ("__debug__" : Str)) = false := by decide)
    (he : starEach (e :: es) X.env = (false, eval e X.env) :: starEach es X.env := by rfl) (hpl : (backTo pos (starEach es X.env)).any (·.1) = false := by rfl) : PE X (.Call (.Name x p) (e :: es) [] pos) (tCall sp [] E0 t) := by
  obtain ⟨f, fd, hm, F, hb, ok⟩ := c.ex
  exact pe_call ok hr hg hm F.kp hb .nil pass0 ha hdb he hpl
/-- keywords alone -/
theorem pe_canK {ks : List Str} {kws : List Keyword} {g : List Value → List Value → List Value} {gV : List V → List V → List V} {tk : TA} (c : Can X.prog X.w X.K X.mg X.base k x st ps sp) (hr : Room k X.A) (hb : ∀ f fd, Fun X.K x x st f fd → KBn X.K fd ps 0 ks g gV)
    (hkw : PK X kws tk) (hg : Gl X x := by rfl) (hall : (backToKw pos (keywordEach kws X.env)).all (·.1.isSome) = true := by rfl) (hks : (backToKw pos (keywordEach kws X.env)).filterMap (·.1) = ks := by rfl)
    (hdb : (x == ("__debug__" : Str)) = false := by decide) (hpl : ((backTo pos (starEach [] X.env)).any (·.1) || (backToKw pos (keywordEach kws X.env)).any (·.1.isNone)) = false := by rfl) :
    PE X (.Call (.Name x p) [] kws pos) (tCallN 0 ks.length sp gV E0 tNil tk) := by
  obtain ⟨f, fd, hm, F, _, ok⟩ := c.ex
  refine ⟨fun pins s σ H Q I h => ?_⟩
  refine wpAny_Call_Name_kw (ld_glob I hg hm ?_ hdb)
  refine PySem.W.callWith_KW0 (h₀ := X.base) I.ok.mod.kin F.kp hall ?_ hpl
  refine thn (hkw.run pos pins s σ H _ I h) fun ws s2 ⟨zs, H2, I2, rz, l1, l2, q2⟩ => ⟨I2.kIn, ?_⟩
  rw [hks]
  exact run_fnN (us := []) (vs := []) ok hr (hb f fd F) pass0 I2 .nil rz l1 l2 q2
theorem pe_gS {z : Str} (hm : ∃ t, X.mg x = some (.str z t)) (hg : Gl X x := by rfl) (hd : (x == ("__debug__" : Str)) = false := by decide) : PE X (.Name x pos) (tC (.str z)) := by
  obtain ⟨t, hm⟩ := hm
  exact pe_glob hg hm ⟨t, rfl⟩ hd
theorem pe_gI {z : Int} (hm : ∃ t, X.mg x = some (.int z t)) (hg : Gl X x := by rfl) (hd : (x == ("__debug__" : Str)) = false := by decide) : PE X (.Name x pos) (tC (.int z)) := by
  obtain ⟨t, hm⟩ := hm
  exact pe_glob hg hm ⟨t, rfl⟩ hd
end
theorem sz5 {n : Nat} (h : n ≤ 1000000) : n ≤ sizeLine := by rw [show sizeLine = 16777216 from sizeLine_eq]; omega
theorem walk_tx (l : List Nat) : Walk (Its (tx l)) l.length (fun _ => True) (fun i H v H' => H' = H ∧ ∃ c, l[i]? = some c ∧ v = .str (tx [c])) := by
  have w := walk_str (z := tx l)
  rw [tx_size] at w
  refine w.mono (fun _ _ => trivial) fun i H x H' hi _ y => ?_
  obtain ⟨e, c, hc, hx⟩ := y
  rw [tx_get] at hc
  exact ⟨e, c, hc, hx⟩
end Nf
namespace Nf
theorem flat1 : ∀ l : List Nat, (l.map fun c => [c]).flatten = l
  | [] => rfl
  | c :: l => by rw [List.map_cons, List.flatten_cons, flat1 l]; rfl
theorem take_snoc {α : Type} {l : List α} {i : Nat} {c : α} (h : l[i]? = some c) : l.take (i + 1) = l.take i ++ [c] := by rw [List.take_add_one, h]; rfl
end Nf
namespace Nf
open PySem PySem.Spec PyProof.Rows L2
theorem cutS_from (l : List Nat) (a : Nat) : cutS (tx l) (some (a : Int)) none = tx (l.drop a) := by
  unfold cutS
  rw [HT.sIx_nat, HT.sIx_none, tx_toList, tx_length]
  show tx _ = tx _
  congr 1
  by_cases h : a ≤ l.length
  · rw [Nat.min_eq_left h, List.take_of_length_le]
    rw [List.length_drop]
    exact Nat.le_refl _
  · rw [Nat.min_eq_right (by omega), List.drop_length, List.drop_eq_nil_of_le (by omega), List.take_nil]
theorem cutS_to (l : List Nat) (b : Nat) : cutS (tx l) none (some (b : Int)) = tx (l.take b) := by
  unfold cutS
  rw [HT.sIx_nat, HT.sIx_none, tx_toList, tx_length]
  show tx _ = tx _
  congr 1
  rw [List.drop_zero, Nat.sub_zero]
  by_cases h : b ≤ l.length
  · rw [Nat.min_eq_left h]
  · rw [Nat.min_eq_right (by omega), List.take_of_length_le (Nat.le_refl _), List.take_of_length_le (by omega)]
theorem cut_from1 (l : List Nat) : cutS (tx l) (some 1) none = tx (l.drop 1) := cutS_from l 1
end Nf
namespace Nf
open PySem PySem.Spec PyProof.Rows L2
/-! ### sorted texts -/
theorem lt_anti : ∀ a b : List Nat, ltCps a b = false → ltCps b a = false → a = b
  | [], [], _, _ => rfl
  | [], _ :: _, h, _ => by simp [ltCps] at h
  | _ :: _, [], _, h => by simp [ltCps] at h
  | x :: r, y :: t, h1, h2 => by
    simp only [ltCps, Bool.or_eq_false_iff, decide_eq_false_iff_not, Bool.and_eq_false_iff, beq_eq_false_iff_ne, ne_eq] at h1 h2
    have e : x = y := by omega
    subst e
    rw [lt_anti r t (h1.2.resolve_left (fun z => z rfl)) (h2.2.resolve_left (fun z => z rfl))]
theorem le_trans : ∀ a b c : List Nat, ltCps b a = false → ltCps c b = false → ltCps c a = false
  | [], [], c, _, h2 => h2
  | [], _ :: _, [], _, _ => rfl
  | [], y :: t, z :: u, _, _ => rfl
  | x :: r, [], _, h1, _ => by simp [ltCps] at h1
  | x :: r, y :: t, [], _, h2 => by simp [ltCps] at h2
  | x :: r, y :: t, z :: u, h1, h2 => by
    simp only [ltCps, Bool.or_eq_false_iff, decide_eq_false_iff_not, Bool.and_eq_false_iff, beq_eq_false_iff_ne, ne_eq] at h1 h2 ⊢
    refine ⟨by omega, ?_⟩
    by_cases e : z = x
    · right
      have e1 : y = x := by omega
      have e2 : z = y := by omega
      exact le_trans r t u (h1.2.resolve_left (fun q => q e1)) (h2.2.resolve_left (fun q => q e2))
    · exact .inl e
theorem le_total : ∀ a b : List Nat, ltCps b a = false ∨ ltCps a b = false
  | [], [] => .inl rfl
  | [], _ :: _ => .inl rfl
  | _ :: _, [] => .inr rfl
  | x :: r, y :: t => by
    simp only [ltCps, Bool.or_eq_false_iff, decide_eq_false_iff_not, Bool.and_eq_false_iff, beq_eq_false_iff_ne, ne_eq]
    rcases Nat.lt_trichotomy x y with h | h | h
    · exact .inl ⟨by omega, .inl (by omega)⟩
    · subst h
      rcases le_total r t with q | q
      · exact .inl ⟨by omega, .inr q⟩
      · exact .inr ⟨by omega, .inr q⟩
    · exact .inr ⟨by omega, .inl (by omega)⟩
def leB (a b : List Nat) : Bool := !ltCps b a
def srt (ls : List (List Nat)) : List (List Nat) := ls.mergeSort leB
theorem srt_perm (ls : List (List Nat)) : (srt ls).Perm ls := List.mergeSort_perm _ _
theorem srt_pw (ls : List (List Nat)) : (srt ls).Pairwise fun a b => leB a b = true := by
  refine List.pairwise_mergeSort (fun a b c h1 h2 => ?_) (fun a b => ?_) ls
  · unfold leB at *
    rw [Bool.not_eq_true'] at *
    exact le_trans a b c h1 h2
  · unfold leB
    rcases le_total a b with h | h
    · rw [h]; rfl
    · rw [h]; simp
theorem leB_anti {a b : List Nat} (h1 : leB a b = true) (h2 : leB b a = true) : a = b := by
  unfold leB at *
  rw [Bool.not_eq_true'] at *
  exact lt_anti a b h2 h1
theorem srt_unique {ls ms : List (List Nat)} (hp : ms.Perm ls) (hs : ms.Pairwise fun a b => leB a b = true) : ms = srt ls :=
  List.Perm.eq_of_pairwise (fun a b _ _ h1 h2 => leB_anti h1 h2) hs (srt_pw ls) (hp.trans (srt_perm ls).symm)
theorem srt_congr {ls ms : List (List Nat)} (hp : ms.Perm ls) : srt ms = srt ls := srt_unique ((srt_perm ms).trans hp) (srt_pw ms)
theorem rising_pw : ∀ (p : Str) (l : List Str), risingS p l = true → (p :: l).Pairwise fun a b => leB a.cps.toList b.cps.toList = true
  | p, [], _ => List.pairwise_singleton _ _
  | p, x :: r, h => by
    have h : (!ltCps x.cps.toList p.cps.toList && risingS x r) = true := h
    rw [Bool.and_eq_true] at h
    have ih := rising_pw x r h.2
    refine List.pairwise_cons.mpr ⟨fun y hy => ?_, ih⟩
    rcases List.mem_cons.mp hy with e | e
    · rw [e]; exact h.1
    · have q := (List.pairwise_cons.mp ih).1 y e
      have h1 := h.1
      unfold leB at *
      rw [Bool.not_eq_true'] at *
      exact le_trans _ _ _ h1 q
theorem sorted_is {ls : List (List Nat)} {ys : List Str} (hp : ys.Perm (ls.map tx)) (hs : sortedS ys = true) : ys = (srt ls).map tx := by
  have pw : ys.Pairwise fun a b => leB a.cps.toList b.cps.toList = true := by
    cases ys with
    | nil => exact List.Pairwise.nil
    | cons x r => exact rising_pw x r hs
  have e := srt_unique (ls := ls) (ms := ys.map fun s => s.cps.toList) (by
    have := hp.map fun s : Str => s.cps.toList
    rw [List.map_map] at this
    have e2 : ((fun s : Str => s.cps.toList) ∘ tx) = id := funext fun l => tx_toList l
    rw [e2, List.map_id] at this
    exact this) (List.pairwise_map.mpr pw)
  rw [← e, List.map_map]
  have e3 : (tx ∘ fun s : Str => s.cps.toList) = id := funext fun s => TL.mk_tl s
  rw [e3, List.map_id]
/-! ### comprehensions of two clauses -/
section
variable {J : It} {n : Nat} {G : Hp → Prop} {Y : Nat → Hp → V → Hp → Prop} {M : Mv} {H1 : Hp} {D : Addr}
theorem lcx_out (w : Walk J n G Y) {g : TG} {tt : TT} {B : L2.St → Hp → (Hp → Prop) → Prop} {vs : List Nat} {σ : L2.St} {Qd : Hp → Prop} (hD : H1 D = none) (I : Nat → List V → Hp → Prop) (h0 : I 0 [] (upd H1 D (.lst []))) (hG : ∀ H, Ext M H1 H → G H)
    (hs : ∀ i x H H' L, i < n → Ext M H1 H → H D = some (.lst L) → L.length < 100000 → I i L H → Y i H x H' → g x (wipe σ vs) H' fun σ2 H2 => wipe σ2 vs = wipe σ vs ∧ tt σ2 H2 fun b H3 => if b = true then B σ2 H3 (LW M H1 D I (i + 1)) else LW M H1 D I (i + 1) H3)
    (hd : ∀ L H, Ext M H1 H → H D = some (.lst L) → I n L H → Qd H) :
    ∃ W : Nat → Nat → Hp → Prop, (∃ m, W 0 m (upd H1 D (.lst []))) ∧ ∀ i m H, W i m H →
      (J.stop i H ∧ Qd H) ∨ (J.go i H ∧ ∃ Nx : Hp → Prop, (∀ H', Nx H' → ∃ m', m' < m ∧ W (i + 1) m' H') ∧ ∀ x H', J.yld i H x H' → g x (wipe σ vs) H' fun σ2 H2 => wipe σ2 vs = wipe σ vs ∧ tt σ2 H2 fun b H3 =>
        if b = true then B σ2 H3 Nx else Nx H3) := by
  refine ⟨fun i m H => m = n - i ∧ i ≤ n ∧ LW M H1 D I i H, ⟨n, by simp, Nat.zero_le _, .new hD, [], upd_same, by decide, h0⟩, ?_⟩
  rintro i m H ⟨rfl, hi, e, L, hl, hz, hI⟩
  by_cases hlt : i < n
  · exact .inr ⟨w.goes i H hlt (hG H e), LW M H1 D I (i + 1), fun H' p' => ⟨n - (i + 1), by omega, rfl, hlt, p'⟩, fun x H' y => hs i x H H' L hlt e hl hz hI (w.yields i H x H' hlt (hG H e) y)⟩
  · have q : i = n := by omega
    subst q
    exact .inl ⟨w.stops H (hG H e), hd L H e hl hI⟩
theorem lcx_in {Nx : Hp → Prop} {H4 : Hp} (w : Walk J n G Y) {g : TG} {tt : TT} {te : TE} {vs : List Nat} {σ : L2.St} (I : Nat → List V → Hp → Prop) (h0 : LW M H1 D I 0 H4) (hG : ∀ j H, j ≤ n → LW M H1 D I j H → G H)
    (hs : ∀ i x H H' L, i < n → Ext M H1 H → H D = some (.lst L) → L.length < 100000 → I i L H → Y i H x H' → g x (wipe σ vs) H' fun σ2 H2 => wipe σ2 vs = wipe σ vs ∧ tt σ2 H2 fun b H3 =>
      if b = true then te σ2 H3 fun y H4 => ∃ acc, H4 D = some (.lst acc) ∧ acc.length < sizeLine ∧ LW M H1 D I (i + 1) (upd H4 D (.lst (acc ++ [y]))) else LW M H1 D I (i + 1) H3)
    (hd : ∀ H, LW M H1 D I n H → Nx H) :
    ∃ W : Nat → Nat → Hp → Prop, (∃ m, W 0 m H4) ∧ ∀ i m H, W i m H →
      (J.stop i H ∧ Nx H) ∨ (J.go i H ∧ ∃ Nx1 : Hp → Prop, (∀ H', Nx1 H' → ∃ m', m' < m ∧ W (i + 1) m' H') ∧ ∀ x H', J.yld i H x H' → g x (wipe σ vs) H' fun σ2 H2 => wipe σ2 vs = wipe σ vs ∧ tt σ2 H2 fun b H3 =>
        if b = true then te σ2 H3 fun y H4 => ∃ acc, H4 D = some (.lst acc) ∧ acc.length < sizeLine ∧ Nx1 (upd H4 D (.lst (acc ++ [y]))) else Nx1 H3) := by
  refine ⟨fun i m H => m = n - i ∧ i ≤ n ∧ LW M H1 D I i H, ⟨n, by simp, Nat.zero_le _, h0⟩, ?_⟩
  rintro i m H ⟨rfl, hi, p⟩
  by_cases hlt : i < n
  · obtain ⟨e, L, hl, hz, hI⟩ := id p
    exact .inr ⟨w.goes i H hlt (hG i H hi p), LW M H1 D I (i + 1), fun H' p' => ⟨n - (i + 1), by omega, rfl, hlt, p'⟩, fun x H' y => hs i x H H' L hlt e hl hz hI (w.yields i H x H' hlt (hG i H hi p) y)⟩
  · have q : i = n := by omega
    subst q
    exact .inl ⟨w.stops H (hG i H (Nat.le_refl _) p), hd H p⟩
end
/-! ### combinations of letters -/
theorem combIx_map (f : Nat → Nat) : ∀ (r : Nat) (l : List Nat), combIx r (l.map f) = (combIx r l).map (·.map f)
  | 0, l => by simp [combIx]
  | r + 1, [] => by simp [combIx]
  | r + 1, a :: l => by
    rw [List.map_cons, combIx, combIx, combIx_map f r l, combIx_map f (r + 1) l, List.map_append, List.map_map, List.map_map]
    congr 1
theorem range_map (l : List Nat) : (List.range l.length).map (fun i => l.getD i 0) = l := by
  apply List.ext_getElem
  · simp
  · intro i h1 h2
    simp
    rw [List.getElem?_eq_getElem h2]
    rfl
theorem combIx_mem : ∀ (r : Nat) (l ix : List Nat), ix ∈ combIx r l → ∀ i ∈ ix, i ∈ l
  | 0, l, ix, h => by
    have : ix = [] := by simpa [combIx] using h
    subst this
    intro i hi
    cases hi
  | r + 1, [], ix, h => by simp [combIx] at h
  | r + 1, a :: l, ix, h => by
    rw [combIx, List.mem_append] at h
    rcases h with h | h
    · obtain ⟨jx, hj, rfl⟩ := List.mem_map.mp h
      intro i hi
      rcases List.mem_cons.mp hi with e | e
      · rw [e]; exact List.mem_cons_self
      · exact List.mem_cons_of_mem _ (combIx_mem r l jx hj i e)
    · exact fun i hi => List.mem_cons_of_mem _ (combIx_mem (r + 1) l ix h i hi)
theorem combIx_len : ∀ (r : Nat) (l ix : List Nat), ix ∈ combIx r l → ix.length = r
  | 0, l, ix, h => by
    have : ix = [] := by simpa [combIx] using h
    rw [this]; rfl
  | r + 1, [], ix, h => by simp [combIx] at h
  | r + 1, a :: l, ix, h => by
    rw [combIx, List.mem_append] at h
    rcases h with h | h
    · obtain ⟨jx, hj, rfl⟩ := List.mem_map.mp h
      rw [List.length_cons, combIx_len r l jx hj]
    · exact combIx_len (r + 1) l ix h
/-- the row of signs that combinations hands out -/
theorem rowV_sg {l ix : List Nat} (h : ∀ i ∈ ix, i < l.length) : rowV (vsg l) ix = vsg (ix.map fun i => l.getD i 0) := by
  induction ix with
  | nil => rfl
  | cons a r ih =>
    have h1 := h a List.mem_cons_self
    have := ih fun i hi => h i (List.mem_cons_of_mem _ hi)
    show (vsg l).getD a .non :: rowV (vsg l) r = V.str (tx [l.getD a 0]) :: vsg (r.map fun i => l.getD i 0)
    rw [this]
    congr 1
    simp [vsg, List.getD_eq_getElem?_getD, List.getElem?_map, List.getElem?_eq_getElem h1]
theorem comb_rows (r : Nat) (l : List Nat) : (combIx r (List.range l.length)).map (fun ix => ix.map fun i => l.getD i 0) = combIx r l := by
  rw [← combIx_map, range_map]
/-- combinations(a text, r): at turn i the i-th row of letters -/
theorem walk_combT (l : List Nat) (r : Nat) : Walk (Itcb (vsg l) (combIx r (List.range l.length))) (combIx r l).length (fun _ => True)
    (fun i H v H' => ∃ T row, v = .ref T ∧ H T = none ∧ H' = upd H T (.tup (vsg row)) ∧ (combIx r l)[i]? = some row ∧ row.length = r) := by
  have w := walk_comb (xs := vsg l) (rows := combIx r (List.range l.length))
  have el : (combIx r (List.range l.length)).length = (combIx r l).length := by have q := congrArg List.length (comb_rows r l); rw [List.length_map] at q; exact q
  rw [el] at w
  refine w.mono (fun _ h => h) fun i H x H' hi _ y => ?_
  obtain ⟨T, ix, e1, e2, e3, e4⟩ := y
  have hm := List.mem_of_getElem? e4
  refine ⟨T, ix.map fun i => l.getD i 0, e1, e2, ?_, ?_, ?_⟩
  · rw [e3, rowV_sg fun i hi => List.mem_range.mp (combIx_mem _ _ _ hm i hi)]
  · rw [← comb_rows, List.getElem?_map, e4]; rfl
  · rw [List.length_map, combIx_len _ _ _ hm]
theorem src_tx {K : PySem.W.Frag} {H : Hp} {l : List Nat} (h : l.length ≤ 1000) : Src K H (.str (tx l)) (vsg l) := by
  refine ⟨by rw [tx_size]; exact sz5 (by omega), ?_⟩
  rw [tx_toList]
  rfl
end Nf
set_option Elab.async false
set_option linter.all false
set_option maxRecDepth 100000
set_option maxHeartbeats 2000000
namespace Nf
open PySem PySem.Spec PyProof.Rows L2
/-! ### a text turned round -/
def tBackS (te : TE) : TE := fun σ H Q => te σ H fun x H1 => ∃ l : List Nat, x = .str (tx l) ∧ l.length ≤ 1000 ∧ Q (.str (tx l.reverse)) H1
theorem back_list (l : List Nat) : ((Builtin.Str.strSliceIndices none none (-1) l.length).filterMap ((tx l).cps[·]?)).toArray = (tx l.reverse).cps := by
  apply Array.toList_inj.mp
  rw [tx_toList, picked_rev, List.toList_toArray, filterMap_get, List.map_map]
  · apply List.ext_getElem
    · simp
    · intro i h1 h2
      simp only [List.length_map, List.length_range] at h1
      have e : (tx l).cps.getD (l.length - 1 - i) 0 = l.getD (l.length - 1 - i) 0 := by simp [tx, Array.getD, List.getD]; split <;> simp_all
      simp only [List.getElem_map, List.getElem_range, Function.comp]
      rw [e, List.getElem_reverse, List.getD_eq_getElem?_getD, List.getElem?_eq_getElem (by omega)]
      rfl
  · intro i hi
    obtain ⟨k, hk, rfl⟩ := List.mem_map.mp hi
    have hk' : k < l.length := List.mem_range.mp hk
    rw [tx_size]
    omega
theorem pe_back {X : Cx} {e : Expr} {te : TE} {k : Nat} {p1 p2 p3 pos : Pos} (he : PE X e te) : PE X (.Subscript e (.Slice none none (some (.UnaryOp .USub (.Constant (.int 1) k p1) p2)) p3) pos) (tBackS te) := by
  refine ⟨fun pins s σ H Q I h => ?_⟩
  refine Subscript_ (thn (he.run pins s σ H _ I h) fun v s1 ⟨x, H1, I1, r1, q1⟩ => ?_)
  obtain ⟨l, ex, hl, q⟩ := q1
  subst ex
  obtain ⟨tk, rfl⟩ := r1
  have hst : PO X (some (.UnaryOp .USub (.Constant (.int 1) k p1) p2)) (tPart (tUn (rU fun i => .int (-i)) (tC (.int 1)))) := po_some (pe_un un_neg pe_int)
  refine wpAny_Slice (thn (po_none.run pins s1 σ H1 (fun o H2 => o = none ∧ H2 = H1) I1 ⟨rfl, rfl⟩) fun vl s2 ⟨lo, H2, I2, pl, el, e2⟩ => ?_)
  subst el e2
  refine thn (po_none.run pins s2 σ H2 (fun o H3 => o = none ∧ H3 = H2) I2 ⟨rfl, rfl⟩) fun vu s3 ⟨u, H3, I3, pu, eu, e3⟩ => ?_
  subst eu e3
  refine thn (hst.run pins s3 σ H3 (fun o H4 => o = some (-1) ∧ H4 = H3) I3 ⟨1, rfl, -1, rfl, rfl, rfl⟩) fun vs s4 ⟨o, H4, I4, ps, eo, e4⟩ => ?_
  subst eo e4
  obtain ⟨l1, rfl, e1⟩ := IsPart.raw pl
  obtain ⟨l2, rfl, e2⟩ := IsPart.raw pu
  obtain ⟨l3, rfl, e3⟩ := IsPart.raw ps
  have I5 : Inv X pins σ H4 { s4 with heap := s4.heap.push { cls := .type "slice", data := .fields #[partValue l1, partValue l2, partValue l3] } } := I4.kept (t' := s4.toks) fun b ob q => Heap.get?_push_of_some _ q
  show wpAny (model X.prog X.w) X.A (subscriptTail e (.Slice none none (some (.UnaryOp .USub (.Constant (.int 1) k p1) p2)) p3) (.str (tx l) tk) (.ref s4.heap.objs.size)) (EP X pins σ Q) X.xe { s4 with heap := s4.heap.push { cls := .type "slice", data := .fields #[partValue l1, partValue l2, partValue l3] } }
  refine tail_any (ops := [.str (tx l) tk, .ref s4.heap.objs.size]) (typeIs_str _ _ _) (PySem.F.slot_str_getitem.lookup) ?_ (by with_unfolding_all rfl)
  have z3 : (l3.map (·.1)).getD 1 = -1 := by rw [e3]; rfl
  refine wpAny_getItem_str_slice (l := l1) (u := l2) (st := l3) ⟨_, Heap.get?_push_size _ rfl, rfl, rfl⟩ (by rw [z3]; decide) ?_
  unfold sliceMade
  rw [z3]
  have hc : ¬ (((-1 : Int) == 1 && (slicePicked (tx l) l1 l2 l3).length == (tx l).length) = true) := by
    rw [show ((-1 : Int) == 1) = false from rfl]; simp
  rw [if_neg hc]
  have hp : (slicePicked (tx l) l1 l2 l3).filterMap ((tx l).cps[·]?) = l.reverse := by
    have := congrArg Array.toList (back_list l)
    rw [List.toList_toArray, tx_toList] at this
    unfold slicePicked
    rw [z3, e1, e2, tx_length]
    exact this
  rw [hp]
  refine ⟨?_, .str _, _, I5.tok _, ⟨_, rfl⟩, q⟩
  show (tx l.reverse).length ≤ _
  rw [tx_length, List.length_reverse]
  exact sz5 (by omega)
/-! ### enumerate of a tuple -/
theorem enum_new1 {v : Value} {o : Obj} {H : Heap → Prop} (B : Begins v o H) :
    Meets (Builtin.«enumerate.__new__» ⟨[.type "enumerate", v], []⟩) (fun _ R s => H s.heap ∧
      R (.ok (.ret (.ref (s.heap.push o).objs.size))) { s with heap := (s.heap.push o).push { cls := .type "enumerate", data := .fields #[.none, .bool false, .ref s.heap.objs.size, rawInt 0, .none, .none] } }) :=
  .of_wp fun prog w A R s h => by
    obtain ⟨hp, g, d, tk, os⟩ := s; obtain ⟨h1, h⟩ := h
    have hsub := sub_enumerate
    have q1 : ∀ {A' : Around} {E : Value → Shared → Prop} {Q : Value → Shared → Prop}, Q (.ref hp.objs.size) ⟨hp.push o, g, d, tk, os⟩ → wpAny (model prog w) A' (pyIter v) Q E ⟨hp, g, d, tk, os⟩ :=
      fun q => B.iter prog w _ _ ⟨hp, g, d, tk, os⟩ _ h1 q
    wp_walk using q1
    refine wpAny_stack_any fun st => wpAny_pure ?_
    split
    · rename_i c _ _ _ _ _
      cases (c == Value.type "enumerate") <;> (wp_walk using q1; exact ⟨_, rfl, h⟩)
    · wp_walk using q1
      exact ⟨_, rfl, h⟩
theorem enum_call1 {prog : Program} {w : World} {A : Around} {E : Value → Shared → Prop} {s : Shared} {v : Value} {o : Obj} {H : Heap → Prop} {Q : Value → Shared → Prop} (B : Begins v o H) (h1 : H s.heap)
    (h : ∀ h', IsEnum h' (s.heap.objs.size + 1) s.heap.objs.size 0 .none → h'.get? s.heap.objs.size = some o → h'.objs.size = s.heap.objs.size + 2 → (∀ b o, s.heap.get? b = some o → h'.get? b = some o) → Q (.ref (s.heap.objs.size + 1)) { s with heap := h' }) :
    wpAny (model prog w) A (call (.type "enumerate") [v]) Q E s := by
  refine callType_new F.called_enumerate (by decide) (F.typeCall_enumerate_1 _) (F.newCall_enumerate_1 _) (fun obj => F.args_object_init_2 obj _) F.entry_enumerate_new (enum_new1 B) ⟨h1, ?_⟩
  have hz : (s.heap.push o).objs.size = s.heap.objs.size + 1 := Heap.size_push ..
  show _ ∧ _
  rw [hz]
  have g0 := Heap.get?_push_size (s.heap.push o) (o := { cls := .type "enumerate", data := .fields #[.none, .bool false, .ref s.heap.objs.size, rawInt 0, .none, .none] }) rfl
  rw [hz] at g0
  exact ⟨⟨_, g0, rfl⟩, h _ g0 (Heap.get?_push_of_some _ (Heap.get?_push_size _ B.free)) (by rw [Heap.size_push, hz]) fun b o x => Heap.get?_push_of_some _ (Heap.get?_push_of_some _ x)⟩
def IteT (K : PySem.W.Frag) (a : Addr) : It :=
  ⟨fun i H => ∃ (xs : List V) (x : V), SqT K H a xs ∧ xs[i]? = some x, fun i H v H' => ∃ T x, v = .ref T ∧ H T = none ∧ H' = upd H T (.tup [.int (i : Nat), x]) ∧ ∀ xs, SqT K H a xs → xs[i]? = some x, fun i H => ∃ xs : List V, SqT K H a xs ∧ i = xs.length⟩
theorem turn_enumT {P : Program} {w : World} {K : PySem.W.Frag} {elts : List Expr} {kk : Nat} {tpos : Pos} (a e it : Addr) (hne : e ≠ it) :
    Turn P w K (.Tuple elts kk tpos) (IteT K a) [e, it] e (fun i h => (∃ old, IsEnum h e it ((i : Nat) : Int) old) ∧ h.IsTupleIter it a i ∧ a ≠ it ∧ a ≠ e) where
  mem := by simp
  obj := fun i h st b hb => by
    obtain ⟨⟨old, he⟩, ⟨o, ho, hc, hd⟩, _⟩ := st
    have e' : b = e ∨ b = it := by simpa using hb
    rcases e' with z | z
    · rw [z]; exact ⟨_, he, fun v q => nomatch q⟩
    · rw [z]; exact ⟨o, ho, fun v q => by rw [hd] at q; cases q⟩
  keep := fun i h h' st k => ⟨let ⟨old, he⟩ := st.1; ⟨old, k e (by simp) _ he⟩, st.2.1.at fun o q => k it (by simp) o q, st.2.2⟩
  item := by
    intro X hP hw hK hc i pins s σ H E I hf st hg
    subst hP hw hK
    obtain ⟨⟨old, he⟩, hit, hai, hae⟩ := st
    obtain ⟨xs, x, hq, hx⟩ := hg
    obtain ⟨its, rv, p, hz⟩ := I.tuple hq
    obtain ⟨u, hu, ru⟩ := rv.get hx
    have hel : e < s.heap.objs.size := Heap.lt_size he
    have hil : it < s.heap.objs.size := by obtain ⟨_, q, _⟩ := hit; exact Heap.lt_size q
    have hlt : i < its.toArray.size := by
      rw [List.size_toArray]
      exact (List.getElem?_eq_some_iff.mp hu).1
    refine wpAny_pyNext_enum_itemC (Draws.tuple (A := X.A.in1) (show X.A.in1.handled = none from I.ok.hd hc) it a hai its.toArray) he ⟨hit, p⟩ hlt hne (by simp [hne, Ne.symm hae]) fun y h' tk hy ho st' hT hsz hk => ?_
    have hyu : y = u := by
      have z : its[i]? = some y := by simpa using hy
      rw [hu] at z
      exact (Option.some.inj z).symm
    subst hyu
    refine ⟨_, rfl, wpAny_letOwnedTupleGo_enum (s := { s with heap := h', toks := tk + 1 }) ho fun h'' he' sb => ?_⟩
    have hT2 := (sb.2 _ (Nat.ne_of_gt hel)).trans hT
    have new : ObjOk X.prog X.w (upd H s.heap.objs.size (.tup [.int (i : Nat), x])) h'' s.heap.objs.size (.tup [.int (i : Nat), x]) :=
      ⟨by show 2 ≤ sizeLine; decide, [.int i tk, y], .cons ⟨_, rfl⟩ (.cons ru .nil), ⟨_, hT2, rfl, _, rfl⟩⟩
    have I1 : L2.Inv X pins σ (upd H s.heap.objs.size (.tup [.int (i : Nat), x])) { s with heap := h'', toks := tk + 1 } :=
      I.turnedNew (ch := [e, it]) (fun b ob hb q => (sb.2 b (fun z => hb (by simp [z]))).trans (hk b ob (fun z => hb (by simp [z])) (fun z => hb (by simp [z])) q)) hf (Nat.le_refl _) new
    refine ⟨.ref s.heap.objs.size, _, I1, rfl, ⟨_, x, rfl, I.hok.fresh (Nat.le_refl _), rfl, fun ys hy => by rw [I.tuple_inj hy hq]; exact hx⟩, ⟨⟨y, ?_⟩, st'.1.at fun o q => (sb.2 it (Ne.symm hne)).trans q, hai, hae⟩, fun b hb => ?_⟩
    · have e1 : ((i + 1 : Nat) : Int) = (i : Int) + 1 := by omega
      rw [e1]; exact he'
    · have hb' : b < s.heap.objs.size := by
        have e' : b = e ∨ b = it := by simpa using hb
        rcases e' with z | z
        · rw [z]; exact hel
        · rw [z]; exact hil
      rw [upd_ne (Nat.ne_of_lt hb')]
      exact (hf b hb).1
  done := by
    intro X hP hw hK hc i pins s σ H E I hf st hg
    subst hP hw hK
    obtain ⟨⟨old, he⟩, hit, hai, hae⟩ := st
    obtain ⟨xs, hq, hx⟩ := hg
    obtain ⟨its, rv, p, hz⟩ := I.tuple hq
    obtain ⟨f0, f1, f2, f3, f4, f5⟩ := hf it (by simp)
    have hl : i = its.toArray.size := by rw [List.size_toArray, ← rv.length]; exact hx
    subst hl
    exact wpAny_pyNext_enum_endD (Draws.tuple (A := X.A.in1) (show X.A.in1.handled = none from I.ok.hd hc) it a hai its.toArray) he ⟨hit, p⟩ fun h' eb => ⟨rfl, I.turned (t' := s.toks) (fun b o hb q => eb b o hb q) f0 f1 f3 f4 f5⟩
  self := fun A i s Q E st h => let ⟨⟨_, he⟩, _⟩ := st; wpAny_pyIter_enum he h
def iEnumT (K : PySem.W.Frag) (ta : TA) : TI := fun σ H R => ta σ H fun vs H1 => ∃ a xs, vs = [.ref a] ∧ SqT K H1 a xs ∧ R (IteT K a) H1
theorem pi_enumT {X : Cx} {e : Expr} {ta : TA} {p pos tpos : Pos} {elts : List Expr} {kk : Nat} (hg : Gl X "enumerate") (hm : X.mg "enumerate" = none) (ha : PA X [e] ta) (hs : starEach [e] X.env = [(false, eval e X.env)] := by rfl) :
    PI X (.Tuple elts kk tpos) (.Call (.Name "enumerate" p) [e] [] pos) (iEnumT X.K ta) := by
  refine ⟨fun pins s σ H R I h => ?_⟩
  refine Call_ (ld_blt I hg hm boot_enumerate (PyProof.Rows.callWith_type1 (thn (ha.run pos pins s σ H _ I h) fun us s1 ⟨vs, H1, I1, r1, q1⟩ => ?_) hs rfl))
  obtain ⟨a, xs, ex, hq, q⟩ := q1
  subst ex
  cases r1 with
  | cons r rr =>
    cases rr
    cases r
    obtain ⟨its, rv, p', hz⟩ := I1.tuple hq
    have ha : a < s1.heap.objs.size := by obtain ⟨o, ho, _⟩ := p'; exact Heap.lt_size ho
    refine enum_call1 (begins_tuple a its.toArray) p' fun h' he hit hsz hk => wpAny_pyIter_enum he ?_
    have I2 : L2.Inv X pins σ H1 { s1 with heap := h' } := I1.kept (t' := s1.toks) hk
    refine ⟨s1.heap.objs.size + 1, [s1.heap.objs.size + 1, s1.heap.objs.size], _, _, H1, rfl, I2, turn_enumT a (s1.heap.objs.size + 1) s1.heap.objs.size (Nat.succ_ne_self _), ⟨⟨.none, he⟩, ⟨_, hit, rfl, rfl⟩, Nat.ne_of_lt ha, Nat.ne_of_lt (Nat.lt_succ_of_lt ha)⟩, fun b hb => ?_, q⟩
    have e' : b = s1.heap.objs.size + 1 ∨ b = s1.heap.objs.size := by simpa using hb
    have hle : s1.heap.objs.size ≤ b := by
      rcases e' with z | z
      · rw [z]; exact Nat.le_add_right _ _
      · rw [z]; exact Nat.le_refl _
    exact I1.fpOk hle (I1.hok.fresh hle)
theorem walk_enumT {K : PySem.W.Frag} {a : Addr} {xs : List V} : Walk (IteT K a) xs.length (fun H => SqT K H a xs) (fun i H v H' => ∃ T x, v = .ref T ∧ H T = none ∧ H' = upd H T (.tup [.int (i : Nat), x]) ∧ xs[i]? = some x) :=
  ⟨fun i _ hi q => ⟨xs, xs[i], q, by simp [hi]⟩, fun _ q => ⟨xs, q, rfl⟩, fun i H v H' _ q y => by obtain ⟨T, x, h1, h2, h3, h4⟩ := y; exact ⟨T, x, h1, h2, h3, h4 xs q⟩⟩
/-! ### a store into a dict as a target -/
theorem set_dict {X : Cx} (hu : X.A.units + 1 < cLine) : PSet X (fun o i v H Q => ∃ a H', o = .ref a ∧ DPut H a i v H' ∧ Q H') := by
  intro pins s σ H o i v ov iv u Q I ro ri rv h
  obtain ⟨a, H', rfl, hp, q⟩ := h
  obtain rfl : ov = Value.ref a := ro
  exact d_setItem hu I hp ri rv fun s' I' => ⟨H', I', q⟩
end Nf
namespace Nf
open PySem PySem.Spec PyProof.Rows L2
theorem vals_signs : ∀ (l : List Nat) (us : List Value), us.length = l.length → (∀ (j : Nat) (v : Value), us[j]? = some v → ∃ (c : Nat) (t : Tok), l[j]? = some c ∧ v = Value.str ⟨#[c]⟩ t) → Vals (vsg l) us
  | [], [], _, _ => .nil
  | [], _ :: _, h, _ => by cases h
  | _ :: _, [], h, _ => by cases h
  | c :: l, a :: b, hl, hj => by
    obtain ⟨c', t', e1, e2⟩ := hj 0 a rfl
    cases e1
    subst e2
    exact .cons ⟨t', rfl⟩ (vals_signs l b (Nat.succ.inj hl) fun j v hv => hj (j + 1) v hv)
/-- list(a text): its signs -/
theorem call_list_tx {X : Cx} (hc : X.calm = true) : CallR X (.type "list") (fun xs H Q => ∃ l : List Nat, xs = [.str (tx l)] ∧ l.length ≤ 1000 ∧ ∀ p, H p = none → Q (.ref p) (upd H p (.lst (vsg l)))) := by
  intro pins s σ H xs us Q I r h
  obtain ⟨l, rfl, hl, q⟩ := h
  obtain ⟨u, rfl, t, rfl⟩ := vals1 r
  refine call_list_str (I.ok.hd hc) (tx l) t (fun h' tk acc' c' k e hacc => ?_) (by rw [tx_size]; exact sz5 (by omega))
  obtain ⟨hs, ha⟩ := hacc
  rw [tx_size] at hs
  have rv : Vals (vsg l) acc'.toList := vals_signs l _ (by rw [Array.length_toList, hs]) fun j v hv => by
    obtain ⟨c, t', e1, e2⟩ := ha j v (by simpa using hv)
    rw [tx_get] at e1
    exact ⟨c, t', e1, e2⟩
  exact ⟨.ref s.heap.objs.size, _, I.laid (t' := tk) k (Nat.le_refl _) (show ObjOk X.prog X.w _ h' _ (.lst (vsg l)) from ⟨by rw [vsg, List.length_map]; exact sz5 (by omega), acc'.toList, c', rv, by simpa using e⟩), rfl, q _ (I.hok.fresh (Nat.le_refl _))⟩
/-- a tuple of pairs of a text and a number -/
def Rows (K : PySem.W.Frag) (H : Hp) (a : Addr) (rows : List (List Nat × Int)) : Prop :=
  ∃ as : List V, SqT K H a as ∧ as.length = rows.length ∧ ∀ (i : Nat) v r, as[i]? = some v → rows[i]? = some r → ∃ b, v = .ref b ∧ SqT K H b [.str (tx r.1), .int r.2]
theorem Rows.sm {K : PySem.W.Frag} {H H' : Hp} {a : Addr} {rows : List (List Nat × Int)} (r : Rows K H a rows) (e : Sm H H') : Rows K H' a rows := by
  obtain ⟨as, h1, h2, h3⟩ := r
  refine ⟨as, Sm.seqT e h1, h2, fun i v r hv hr => ?_⟩
  obtain ⟨b, e1, e2⟩ := h3 i v r hv hr
  exact ⟨b, e1, Sm.seqT e e2⟩
end Nf
set_option Elab.async false
set_option linter.all false
set_option maxRecDepth 100000
set_option maxHeartbeats 2000000
/-! the rules that lean on the written part, told for a part that is named: so they fit into a comprehension's block -/
namespace Nf
open PySem PySem.Spec PyProof.Rows L2
section
variable {X : Cx} (K : PySem.W.Frag)
theorem ix_listK (h : X.K = K := by rfl) : IxR X (rIxL K) := h ▸ ix_list
theorem ix_tupK (h : X.K = K := by rfl) : IxR X (rIxT K) := h ▸ ix_tup
theorem op_in_seqK (h : X.K = K := by rfl) : OpR X (compareOp .In) (rIn K false) := h ▸ op_in_seq
theorem op_notIn_seqK (h : X.K = K := by rfl) : OpR X (compareOp .NotIn) (rIn K true) := h ▸ op_notIn_seq
theorem op_eqDK (hu : X.A.units + 64 < cLine) (h : X.K = K := by rfl) : OpR X (compareOp .Eq) (rEqD K) := h ▸ op_eqD hu
theorem op_neDK (hu : X.A.units + 64 < cLine) (h : X.K = K := by rfl) : OpR X (compareOp .NotEq) (rNeD K) := h ▸ op_neD hu
def rLenK (K : PySem.W.Frag) : List V → Hp → VK → Prop := fun xs H Q => ∃ p ys, xs = [.ref p] ∧ (SqL K H p ys ∨ SqT K H p ys) ∧ Q (.int ys.length) H
theorem call_len_seqK (h : X.K = K := by rfl) : CallR X (.builtin "len") (rLenK K) := h ▸ call_len_seq
def rListK (K : PySem.W.Frag) : List V → Hp → VK → Prop := fun xs H Q => ∃ p ys, xs = [.ref p] ∧ (SqL K H p ys ∨ SqT K H p ys) ∧ ∀ l, H l = none → Q (.ref l) (upd H l (.lst ys))
theorem call_list_ofK (h : X.K = K := by rfl) : CallR X (.type "list") (rListK K) := h ▸ call_list_of
def rTupleK (K : PySem.W.Frag) : List V → Hp → VK → Prop := fun xs H Q => ∃ p ys, xs = [.ref p] ∧ ((SqL K H p ys ∧ ∀ l, H l = none → Q (.ref l) (upd H l (.tup ys))) ∨ (SqT K H p ys ∧ Q (.ref p) H))
theorem call_tuple_ofK (h : X.K = K := by rfl) : CallR X (.type "tuple") (rTupleK K) := h ▸ call_tuple_of
theorem sl_listK (h : X.K = K := by rfl) : SlR X (rSlL K) := h ▸ sl_list
theorem sl_tupK (h : X.K = K := by rfl) : SlR X (rSlT K) := h ▸ sl_tup
theorem cr_sumK (hc : X.calm = true) (h : X.K = K := by rfl) : CallR X (.builtin "sum") (rSum K) := h ▸ cr_sum hc
theorem cr_maxK (hc : X.calm = true) (h : X.K = K := by rfl) : CallR X (.builtin "max") (rMax K) := h ▸ cr_max hc
theorem cr_minK' (hc : X.calm = true) (h : X.K = K := by rfl) : CallR X (.builtin "min") (rMin K) := h ▸ cr_min hc
theorem cr_anyK (hc : X.calm = true) (h : X.K = K := by rfl) : CallR X (.builtin "any") (rAny K) := h ▸ cr_any hc
theorem cr_allK (hc : X.calm = true) (h : X.K = K := by rfl) : CallR X (.builtin "all") (rAll K) := h ▸ cr_all hc
theorem cr_sortedSK (h : X.K = K := by rfl) : CallR X (.builtin "sorted") (rSortedS K) := h ▸ cr_sortedS
theorem cr_sortedK (h : X.K = K := by rfl) : CallR X (.builtin "sorted") (rSorted K) := h ▸ cr_sorted
def rDictP (K : PySem.W.Frag) : List V → Hp → VK → Prop := fun xs H Q => ∃ (a : Addr) (ps : List Addr) (kvs : List (Key × V)), xs = [.ref a] ∧ SqL K H a (ps.map V.ref) ∧ Paired (fun p kv => SqT K H p [kV kv.1, kv.2]) ps kvs ∧ ∀ p, H p = none → Q (.ref p) (upd H p (.dK (mergeK [] kvs)))
theorem call_dictPK (hc : X.calm = true) (h : X.K = K := by rfl) : CallR X (.type "dict") (rDictP K) := h ▸ call_dictP hc
def rJoin (K : PySem.W.Frag) : V → List V → Hp → VK → Prop := fun x xs H Q => ∃ a p, ∃ ys : List Str, x = .str a ∧ xs = [.ref p] ∧ (SqL K H p (ys.map V.str) ∨ SqT K H p (ys.map V.str)) ∧
  (ys.map (·.length)).sum + ys.length * a.length ≤ 16777216 ∧ Q (.str (Txt.join a ys)) H
theorem pe_joinK {o e : Expr} {to te : TE} {apos pos : Pos} (ho : PE X o to) (he : PE X e te) (h : X.K = K := by rfl) (hs : starEach [e] X.env = [(false, eval e X.env)] := by rfl) (hbase : attributeBase o "join" X.env (eval o X.env) = eval o X.env := by rfl) (hline : (apos.endLine == pos.line) = true := by rfl) :
    PE X (.Call (.Attribute o "join" apos) [e] [] pos) (tM1 (rJoin K) to te) := by
  subst h
  exact pe_join ho he hs hbase hline
theorem pi_listK {tg l : Expr} {tl : TE} (hl : PE X l tl) (h : X.K = K := by rfl) : PI X tg l (iList K tl) := h ▸ pi_list hl
theorem pi_tupK {tg l : Expr} {tl : TE} (hl : PE X l tl) (h : X.K = K := by rfl) : PI X tg l (iTup K tl) := h ▸ pi_tup hl
theorem pi_combK {tg e e2 : Expr} {ta : TA} {p pos : Pos} (hc : X.calm = true) (hg : Gl X "combinations") (hm : X.mg "combinations" = some (.type "itertools.combinations")) (ha : PA X [e, e2] ta) (h : X.K = K := by rfl)
    (hs : starEach [e, e2] X.env = (false, eval e X.env) :: starEach [e2] X.env := by rfl) (hpl : (backTo pos (starEach [e2] X.env)).any (·.1) = false := by rfl) :
    PI X tg (.Call (.Name "combinations" p) [e, e2] [] pos) (iComb K ta) := h ▸ pi_comb hc hg hm ha hs hpl
theorem pg_tup2K {e1 e2 : Expr} {k : Nat} {t : TGs} {pos : Pos} (hc : X.calm = true) (h : PGs X [e1, e2] t) (hK : X.K = K := by rfl)
    (hn : (assignEach [e1, e2] X.env).length = 2 := by rfl) (hst : (assignEach [e1, e2] X.env).findIdx? (·.1) = none := by rfl) : PG X (.Tuple [e1, e2] k pos) (gTup K 2 t) := hK ▸ pg_tup hc h hn hst
theorem pe_atK {e : Expr} {T : String} {r : V → List V → Hp → VK → Prop} {to : TE} {t : TA} (he : PE X e (tBM X.K T r to t)) (hK : X.K = K := by rfl) : PE X e (tBM K T r to t) := hK ▸ he
end
end Nf
namespace Nf
open PySem PySem.Spec PyProof.Rows L2
theorem comb7_all : ((List.range 8).all fun n => (List.range 9).all fun r => decide ((combIx r (List.range n)).length ≤ 35)) = true := by decide +kernel
theorem comb7 {r : Nat} {l : List Nat} (hl : l.length ≤ 7) (hr : r ≤ 8) : (combIx r l).length ≤ 35 := by
  rw [← comb_rows, List.length_map]
  exact of_decide_eq_true (List.all_eq_true.mp (List.all_eq_true.mp comb7_all l.length (List.mem_range.mpr (by omega))) r (List.mem_range.mpr (by omega)))
theorem vtx_take (ls : List (List Nat)) (i : Nat) : (vtx (ls.take i)).length ≤ ls.length := by rw [vtx, List.length_map, List.length_take]; omega
end Nf
namespace Nf
open PySem PySem.Spec PyProof.Rows L2
/-- a comprehension without a test -/
theorem yesT {σ : L2.St} {H : Hp} {f g : Hp → Prop} (h : f H) : tYes σ H fun b H3 => if b = true then f H3 else g H3 := by
  show (if true = true then f H else g H)
  rw [if_pos rfl]
  exact h
end Nf
namespace Nf
open PySem PySem.Spec PyProof.Rows L2
/-! ### dict comprehensions -/
def DW (H1 : Hp) (D : Addr) (f : Nat → List (Key × V)) (i : Nat) (H : Hp) : Prop := Sm H1 H ∧ H D = some (.dK (f i))
theorem dcx {J : It} {n : Nat} {G : Hp → Prop} {Y : Nat → Hp → V → Hp → Prop} {H1 : Hp} {D : Addr} (w : Walk J n G Y) {g : TG} {tt : TT} {tk tv : TE} {vs : List Nat} {σ : L2.St} {Qd : Hp → Prop} (hD : H1 D = none) (f : Nat → List (Key × V)) (h0 : f 0 = []) (hG : ∀ H, Sm H1 H → G H)
    (hs : ∀ i x H H', i < n → Sm H1 H → H D = some (.dK (f i)) → Y i H x H' → g x (wipe σ vs) H' fun σ2 H2 => wipe σ2 vs = wipe σ vs ∧ tt σ2 H2 fun b H3 =>
      if b = true then tk σ2 H3 fun y H4 => tv σ2 H4 fun z H5 => ∃ kvs k, y = kV k ∧ H5 D = some (.dK kvs) ∧ kvs.length < sizeLine ∧ DW H1 D f (i + 1) (upd H5 D (.dK (putK kvs k z))) else DW H1 D f (i + 1) H3)
    (hd : ∀ H, Sm H1 H → H D = some (.dK (f n)) → Qd H) :
    ∃ W : Nat → Nat → Hp → Prop, (∃ m, W 0 m (upd H1 D (.dK []))) ∧ ∀ i m H, W i m H →
      (J.stop i H ∧ Qd H) ∨ (J.go i H ∧ ∃ Nx : Hp → Prop, (∀ H', Nx H' → ∃ m', m' < m ∧ W (i + 1) m' H') ∧ ∀ x H', J.yld i H x H' → g x (wipe σ vs) H' fun σ2 H2 => wipe σ2 vs = wipe σ vs ∧ tt σ2 H2 fun b H3 =>
        if b = true then tk σ2 H3 fun y H4 => tv σ2 H4 fun z H5 => ∃ kvs k, y = kV k ∧ H5 D = some (.dK kvs) ∧ kvs.length < sizeLine ∧ Nx (upd H5 D (.dK (putK kvs k z))) else Nx H3) := by
  refine ⟨fun i m H => m = n - i ∧ i ≤ n ∧ DW H1 D f i H, ⟨n, by simp, Nat.zero_le _, .new hD, by rw [h0]; exact upd_same⟩, ?_⟩
  rintro i m H ⟨rfl, hi, p⟩
  by_cases hlt : i < n
  · exact .inr ⟨w.goes i H hlt (hG H p.1), DW H1 D f (i + 1), fun H' p' => ⟨n - (i + 1), by omega, rfl, hlt, p'⟩, fun x H' y => hs i x H H' hlt p.1 p.2 (w.yields i H x H' hlt (hG H p.1) y)⟩
  · have e : i = n := by omega
    subst e
    exact .inl ⟨w.stops H (hG H p.1), hd H p.1 p.2⟩
theorem putK_len {κ : Type} [DecidableEq κ] (kvs : List (κ × V)) (k : κ) (v : V) : (putK kvs k v).length ≤ kvs.length + 1 := by
  unfold putK
  split
  · rw [List.length_map]; omega
  · rw [List.length_append, List.length_singleton]; omega
/-- the dict of the distances of a thing from itself -/
def selfD (l : List Nat) : List (Key × V) := l.foldl (fun acc c => putK acc (Sum.inr (tx [c, c])) (.int 0)) []
/-- a row put in, either way round -/
def rowD (kvs : List (Key × V)) (r : List Nat × Int) : List (Key × V) := putK (putK kvs (Sum.inr (tx r.1)) (.int r.2)) (Sum.inr (tx r.1.reverse)) (.int r.2)
def bothD (l : List Nat) (rows : List (List Nat × Int)) : List (Key × V) := rows.foldl rowD (selfD l)
theorem selfD_snoc {l : List Nat} {i c : Nat} (h : l[i]? = some c) : selfD (l.take (i + 1)) = putK (selfD (l.take i)) (Sum.inr (tx [c, c])) (.int 0) := by
  rw [take_snoc h, selfD, List.foldl_append]; rfl
theorem bothD_snoc {l : List Nat} {rows : List (List Nat × Int)} {i : Nat} {r : List Nat × Int} (h : rows[i]? = some r) : bothD l (rows.take (i + 1)) = rowD (bothD l (rows.take i)) r := by
  rw [take_snoc h, bothD, List.foldl_append]; rfl
theorem foldl_len {α : Type} (f : List (Key × V) → α → List (Key × V)) (m : Nat) (hf : ∀ a x, (f a x).length ≤ a.length + m) : ∀ (xs : List α) (a : List (Key × V)), (xs.foldl f a).length ≤ a.length + m * xs.length
  | [], a => by simp
  | x :: xs, a => by
    rw [List.foldl_cons, List.length_cons]
    have h1 := foldl_len f m hf xs (f a x)
    have h2 := hf a x
    rw [Nat.mul_add]
    omega
theorem selfD_len (l : List Nat) : (selfD l).length ≤ l.length := by
  have := foldl_len (fun acc c => putK acc (Sum.inr (tx [c, c])) (.int 0)) 1 (fun a x => putK_len _ _ _) l []
  simpa [selfD] using this
theorem rowD_len (a : List (Key × V)) (r : List Nat × Int) : (rowD a r).length ≤ a.length + 2 := by
  have h1 := putK_len a (Sum.inr (tx r.1)) (.int r.2)
  have h2 := putK_len (putK a (Sum.inr (tx r.1)) (.int r.2)) (Sum.inr (tx r.1.reverse)) (.int r.2)
  exact Nat.le_trans h2 (by omega)
theorem bothD_len (l : List Nat) (rows : List (List Nat × Int)) : (bothD l rows).length ≤ l.length + 2 * rows.length := by
  have h := foldl_len rowD 2 rowD_len rows (selfD l)
  have := selfD_len l
  rw [bothD]
  omega
end Nf
namespace Nf
open PySem PySem.Spec PyProof.Rows L2
/-- a property that hands on a field -/
structure CanP (P : Program) (w : World) (K : PySem.W.Frag) (mg : Str → Option Value) (base : Heap) (C : Addr) (x fld : Str) : Prop where
  ex : ∃ p g fd, PropOf K C x p g ∧ FnOk P w K mg base CX0 1 g fd ["self"] (getSp C fld) ∧ Binds K fd ["self"] []
/-- e.x, a property: the field's value -/
abbrev tPropF (C : Addr) (fld : Str) (ta : TE) : TE := tProp C (getSp C fld) [] E0 ta
theorem pe_propF {X : Cx} {C : Addr} {x fld : Str} {e : Expr} {ta : TE} {pos : Pos} (he : PE X e ta) (c : Cls X.K C) (hp : CanP X.prog X.w X.K X.mg X.base C x fld) (hr : Room 2 X.A)
    (hab : attributeBase e x X.env (eval e X.env) = eval e X.env := by rfl) : PE X (.Attribute e x pos) (tPropF C fld ta) := by
  obtain ⟨p, g, fd, hpo, F, hb⟩ := hp.ex
  exact pe_prop (E := E0) (dvs := []) he c hpo F hr hb .nil pass0 hab
/-- an instance made by its __init__ -/
structure CanM (P : Program) (w : World) (K : PySem.W.Frag) (mg : Str → Option Value) (base : Heap) (k : Nat) (x : Str) (C : Addr) (ps : List Str) (sp : Sp) : Prop where
  ex : ∃ f fd, mg x = some (.ref C) ∧ Mk K C f ∧ Binds K fd ps [] ∧ FnOk P w K mg base CX0 k f fd ps sp
theorem pe_canM {X : Cx} {k : Nat} {C : Addr} {x : Str} {ps : List Str} {sp : Sp} {p pos : Pos} {e : Expr} {es : List Expr} {t : TA} (c : CanM X.prog X.w X.K X.mg X.base k x C ps sp) (hr : Room (k + 1) X.A) (ha : PA X (e :: es) t) (hg : Gl X x := by rfl) (hdb : (x == ("__debug__" : Str)) = false := by decide)
    (he : starEach (e :: es) X.env = (false, eval e X.env) :: starEach es X.env := by rfl) (hpl : (backTo pos (starEach es X.env)).any (·.1) = false := by rfl) : PE X (.Call (.Name x p) (e :: es) [] pos) (tMake C sp [] E0 t) := by
  obtain ⟨f, fd, hm, M, hb, ok⟩ := c.ex
  exact pe_make M ok hr hg hm hb .nil pass0 ha hdb he hpl
/-- name = {..} in one line, the name a local: the store happens within the comprehension's frame -/
theorem ps_setDc {X : Cx} {i : Nat} {y : Str} {py : Pos} {kx vx tg iter : Expr} {ifs : List Expr} {scope : Scope} {own : List (Str × Nat)} {pos spos : Pos} {wi : TI} {g : TG} {tt : TT} {tk tv : TE} (hc : X.calm = true) (hN : X.N.Nodup) (hy : X.N[i]? = some y) (hyl : X.env.scope.names.lookup y = some .local)
    (hsw : swapsWith (.DictComp kx vx [⟨tg, iter, ifs, 0⟩] scope pos) (some (.Name y py)) spos.line X.env = pure true) (hi : PI X tg iter wi) (ok : BlkOk X.N X.env.scope scope own)
    (hg : ∀ (s : Shared) (H : Hp) (C : Addr) (cl : List (Str × Addr)) (fp : List Addr), PG (X.blk s H scope (compEnvC scope cl C X.env) fp) tg g)
    (ht : ∀ (s : Shared) (H : Hp) (C : Addr) (cl : List (Str × Addr)) (fp : List Addr), PTs (X.blk s H scope (compEnvC scope cl C X.env) fp) ifs tt)
    (hk : ∀ (s : Shared) (H : Hp) (C : Addr) (cl : List (Str × Addr)) (fp : List Addr), PE (X.blk s H scope (compEnvC scope cl C X.env) fp) kx tk)
    (he : ∀ (s : Shared) (H : Hp) (C : Addr) (cl : List (Str × Addr)) (fp : List Addr), PE (X.blk s H scope (compEnvC scope cl C X.env) fp) vx tv) (hs : ∀ x, foldedSetIterable iter X.env x = pure x := by intro _; rfl) :
    PS X (.Assign [.Name y py] (.DictComp kx vx [⟨tg, iter, ifs, 0⟩] scope pos) spos) (tAsg (tDc wi g tt tk tv (own.map (·.2))) (gName i)) := by
  refine ⟨fun pins s σ H D I h => ?_⟩
  rw [exec_Assign_Name_used _ _ _ _ hsw]
  refine wpAny_bind (wpAny_standAt (wpAny_bind ?_))
  show wpAny _ X.A (do let _ ← comprehension (.DictComp kx vx [⟨tg, iter, ifs, 0⟩] scope pos) scope X.env (firstIterPos [⟨tg, iter, ifs, 0⟩] pos) newDict false (eval iter X.env) (some (assign (.Name y py) X.env))) _ _ s
  have q0 : tDc wi g tt tk tv (own.map (·.2)) σ H (fun x H1 => gName i x σ H1 D.nx) := h
  refine wpAny_bind (thn (dc_core (Qf := fun _ s' => SP X pins D .next s') hc hN I hi ok hg ht hk he hs q0 fun L C s' m H' I' q hn f => ?_) fun _ s' hq => wpAny_pure (wpAny_pure hq))
  show wpAny _ _ (assign (.Name y py) X.env (.ref L)) _ _ _
  obtain ⟨f0, f1, f2, f3, f4, f5⟩ := f
  refine wpAny_assign_Name (store_ok2 (v := V.ref L) I' hN hy (.inl hyl) rfl (fun s2 I2 ⟨a, sb, ha⟩ => ?_) (.inr hyl))
  have ne : C ≠ a := by
    rcases ha with z | z
    · exact fun e => f1 (e.trans z)
    · exact fun e => f4 y a z e.symm
  exact ⟨m, hn.sameBut sb ne, fun h3 sb3 => ⟨_, H', I2.turned (t' := s2.toks) (fun b o hb e => (sb3.2 b hb).trans e) f0 f1 f3 f4 f5, q⟩⟩
theorem swd_true {kx vx : Expr} {gs : List Comprehension} {scope : Scope} {pos py : Pos} {y : Str} {l : Nat} {env : Env} (hk : env.scope.kind = .function) (hy : env.scope.names.lookup y = some .local) (hl : (py.line == pos.line) = true)
    (ha : (scope.names.any fun (n, k) => n == y && (k == .local || k == .cell)) = false) : swapsWith (.DictComp kx vx gs scope pos) (some (.Name y py)) l env = pure true := by
  have ky : env.kindOf y = some .local := hy
  have hb : env.blockKind = .function := by unfold Env.blockKind; rw [hk]; rfl
  unfold swapsWith
  simp only [hb, ky, ha, Expr.pos, hl]
  rfl
end Nf
set_option Elab.async false
set_option linter.all false
set_option maxRecDepth 100000
namespace K20
open PySem PySem.Spec PyProof.Rows L2 Nf
def top (i : Nat) : Stmt := PySem.Challenge.pw_nearandfar_k20_whole_partings_of_things.main.body.getD i (.Pass ⟨0, 0, 0, 0⟩)
def lettersL : List Nat := (List.range 26).map (· + 97)
/-- what the top has left -/
structure Txt (K : PySem.W.Frag) (mg : Str → Option Value) (C : Addr) : Prop where
  cl : Cls K C
  g_LETTERS : ∃ t, mg "LETTERS" = some (.str (tx lettersL) t)
  g_LEAST_THINGS : ∃ t, mg "LEAST_THINGS" = some (.int 2 t)
  g_MOST_THINGS : ∃ t, mg "MOST_THINGS" = some (.int 7 t)
  g_MOST_DISTANCE : ∃ t, mg "MOST_DISTANCE" = some (.int 1000000 t)
  g_Table : mg "Table" = some (.ref C)
  combinations : mg "combinations" = some (.type "itertools.combinations")
  isinstance : mg "isinstance" = none
  len : mg "len" = none
  int : mg "int" = none
  bool : mg "bool" = none
  str : mg "str" = none
  tuple : mg "tuple" = none
  list : mg "list" = none
  dict : mg "dict" = none
  range : mg "range" = none
  enumerate : mg "enumerate" = none
  sorted : mg "sorted" = none
  any : mg "any" = none
  all : mg "all" = none
  min : mg "min" = none
  max : mg "max" = none
  abs : mg "abs" = none
  sum : mg "sum" = none
  divmod : mg "divmod" = none
  repr : mg "repr" = none
abbrev s_is_integer_within : Stmt := top 19
abbrev N_is_integer_within : List Str := ["value", "least", "most"]
theorem sc_is_integer_within : FnScope N_is_integer_within ["value", "least", "most"] (defScope s_is_integer_within) := ⟨rfl, rfl, rfl, by decide +kernel, rfl, by decide +kernel, by decide +kernel⟩
abbrev s_is_lot : Stmt := top 20
abbrev N_is_lot : List Str := ["value", "letters", "letter"]
theorem sc_is_lot : FnScope N_is_lot ["value", "letters"] (defScope s_is_lot) := ⟨rfl, rfl, rfl, by decide +kernel, rfl, by decide +kernel, by decide +kernel⟩
abbrev s_is_pair : Stmt := top 21
abbrev N_is_pair : List Str := ["value", "letters"]
theorem sc_is_pair : FnScope N_is_pair ["value", "letters"] (defScope s_is_pair) := ⟨rfl, rfl, rfl, by decide +kernel, rfl, by decide +kernel, by decide +kernel⟩
abbrev s_is_parting : Stmt := top 22
abbrev N_is_parting : List Str := ["value", "things"]
theorem sc_is_parting : FnScope N_is_parting ["value", "things"] (defScope s_is_parting) := ⟨rfl, rfl, rfl, by decide +kernel, rfl, by decide +kernel, by decide +kernel⟩
abbrev s_check_things : Stmt := top 23
abbrev N_check_things : List Str := ["things"]
theorem sc_check_things : FnScope N_check_things ["things"] (defScope s_check_things) := ⟨rfl, rfl, rfl, by decide +kernel, rfl, by decide +kernel, by decide +kernel⟩
abbrev s_check_pair : Stmt := top 24
abbrev N_check_pair : List Str := ["things", "pair"]
theorem sc_check_pair : FnScope N_check_pair ["things", "pair"] (defScope s_check_pair) := ⟨rfl, rfl, rfl, by decide +kernel, rfl, by decide +kernel, by decide +kernel⟩
abbrev s_check_parting : Stmt := top 25
abbrev N_check_parting : List Str := ["things", "parting"]
theorem sc_check_parting : FnScope N_check_parting ["things", "parting"] (defScope s_check_parting) := ⟨rfl, rfl, rfl, by decide +kernel, rfl, by decide +kernel, by decide +kernel⟩
abbrev s_lots_of : Stmt := top 26
abbrev N_lots_of : List Str := ["letters", "least", "size", "lot"]
theorem sc_lots_of : FnScope N_lots_of ["letters", "least"] (defScope s_lots_of) := ⟨rfl, rfl, rfl, by decide +kernel, rfl, by decide +kernel, by decide +kernel⟩
abbrev s_pairs_of : Stmt := top 27
abbrev N_pairs_of : List Str := ["letters", "first", "second"]
theorem sc_pairs_of : FnScope N_pairs_of ["letters"] (defScope s_pairs_of) := ⟨rfl, rfl, rfl, by decide +kernel, rfl, by decide +kernel, by decide +kernel⟩
abbrev s_is_parted : Stmt := top 28
abbrev N_is_parted : List Str := ["parting", "pair"]
theorem sc_is_parted : FnScope N_is_parted ["parting", "pair"] (defScope s_is_parted) := ⟨rfl, rfl, rfl, by decide +kernel, rfl, by decide +kernel, by decide +kernel⟩
abbrev s_other_lot : Stmt := top 29
abbrev N_other_lot : List Str := ["things", "parting", "thing"]
theorem sc_other_lot : FnScope N_other_lot ["things", "parting"] (defScope s_other_lot) := ⟨rfl, rfl, rfl, by decide +kernel, rfl, by decide +kernel, by decide +kernel⟩
abbrev s_both_ways : Stmt := top 30
abbrev N_both_ways : List Str := ["places", "rows", "lengths", "place", "pair", "length"]
theorem sc_both_ways : FnScope N_both_ways ["places", "rows"] (defScope s_both_ways) := ⟨rfl, rfl, rfl, by decide +kernel, rfl, by decide +kernel, by decide +kernel⟩
abbrev s_Table_init : Stmt := inClass (top 35) 0
abbrev N_Table_init : List Str := ["self", "things", "distances"]
theorem sc_Table_init : FnScope N_Table_init ["self", "things", "distances"] (defScope s_Table_init) := ⟨rfl, rfl, rfl, by decide +kernel, rfl, by decide +kernel, by decide +kernel⟩
abbrev s_things : Stmt := inClass (top 35) 2
abbrev N_things : List Str := ["self"]
theorem sc_things : FnScope N_things ["self"] (defScope s_things) := ⟨rfl, rfl, rfl, by decide +kernel, rfl, by decide +kernel, by decide +kernel⟩
abbrev s_is_distance : Stmt := top 36
abbrev N_is_distance : List Str := ["value"]
theorem sc_is_distance : FnScope N_is_distance ["value"] (defScope s_is_distance) := ⟨rfl, rfl, rfl, by decide +kernel, rfl, by decide +kernel, by decide +kernel⟩
abbrev s_is_distance_of : Stmt := top 37
abbrev N_is_distance_of : List Str := ["value", "pair"]
theorem sc_is_distance_of : FnScope N_is_distance_of ["value", "pair"] (defScope s_is_distance_of) := ⟨rfl, rfl, rfl, by decide +kernel, rfl, by decide +kernel, by decide +kernel⟩
abbrev s_check_distances : Stmt := top 38
abbrev N_check_distances : List Str := ["things", "distances", "pairs", "index", "entry"]
theorem sc_check_distances : FnScope N_check_distances ["things", "distances"] (defScope s_check_distances) := ⟨rfl, rfl, rfl, by decide +kernel, rfl, by decide +kernel, by decide +kernel⟩
abbrev s_check_table : Stmt := top 39
abbrev N_check_table : List Str := ["table"]
theorem sc_check_table : FnScope N_check_table ["table"] (defScope s_check_table) := ⟨rfl, rfl, rfl, by decide +kernel, rfl, by decide +kernel, by decide +kernel⟩
abbrev s_partings : Stmt := top 41
abbrev N_partings : List Str := ["table"]
theorem sc_partings : FnScope N_partings ["table"] (defScope s_partings) := ⟨rfl, rfl, rfl, by decide +kernel, rfl, by decide +kernel, by decide +kernel⟩
abbrev s_parts : Stmt := top 42
abbrev N_parts : List Str := ["table", "parting", "pair"]
theorem sc_parts : FnScope N_parts ["table", "parting", "pair"] (defScope s_parts) := ⟨rfl, rfl, rfl, by decide +kernel, rfl, by decide +kernel, by decide +kernel⟩
abbrev s_cross : Stmt := top 43
abbrev N_cross : List Str := ["table", "parting", "other_parting", "lots", "other_lots", "thing", "lot", "others"]
theorem sc_cross : FnScope N_cross ["table", "parting", "other_parting"] (defScope s_cross) := ⟨rfl, rfl, rfl, by decide +kernel, rfl, by decide +kernel, by decide +kernel⟩
abbrev s_clash : Stmt := top 44
abbrev N_clash : List Str := ["table", "parting", "other_parting", "third_parting", "things", "three", "four"]
theorem sc_clash : FnScope N_clash ["table", "parting", "other_parting", "third_parting"] (defScope s_clash) := ⟨rfl, rfl, rfl, by decide +kernel, rfl, by decide +kernel, by decide +kernel⟩
abbrev s_partners : Stmt := top 45
abbrev N_partners : List Str := ["three", "four", "parting"]
theorem sc_partners : FnScope N_partners ["three", "four"] (defScope s_partners) := ⟨rfl, rfl, rfl, by decide +kernel, rfl, by decide +kernel, by decide +kernel⟩
abbrev s_partner : Stmt := top 46
abbrev N_partner : List Str := ["parting", "four", "beside", "thing"]
theorem sc_partner : FnScope N_partner ["parting", "four"] (defScope s_partner) := ⟨rfl, rfl, rfl, by decide +kernel, rfl, by decide +kernel, by decide +kernel⟩
abbrev s_law_urn : Stmt := top 48
abbrev N_law_urn : List Str := ["_law_cells", "_law_turn", "_law_seed", "_law_at", "_law_deep"]
theorem sc_law_urn : FnScope N_law_urn ["_law_cells", "_law_turn"] (defScope s_law_urn) := ⟨rfl, rfl, rfl, by decide +kernel, rfl, by decide +kernel, by decide +kernel⟩
abbrev s_law_cast : Stmt := top 49
abbrev N_law_cast : List Str := ["_law_urn_here", "_law_size", "_law_low"]
theorem sc_law_cast : FnScope N_law_cast ["_law_urn_here", "_law_size"] (defScope s_law_cast) := ⟨rfl, rfl, rfl, by decide +kernel, rfl, by decide +kernel, by decide +kernel⟩
abbrev s_law_pick : Stmt := top 50
abbrev N_law_pick : List Str := ["_law_urn_here", "_law_items"]
theorem sc_law_pick : FnScope N_law_pick ["_law_urn_here", "_law_items"] (defScope s_law_pick) := ⟨rfl, rfl, rfl, by decide +kernel, rfl, by decide +kernel, by decide +kernel⟩
abbrev s_law_shuffled : Stmt := top 51
abbrev N_law_shuffled : List Str := ["_law_urn_here", "_law_items", "_law_pool", "_law_row", "_law_turn"]
theorem sc_law_shuffled : FnScope N_law_shuffled ["_law_urn_here", "_law_items"] (defScope s_law_shuffled) := ⟨rfl, rfl, rfl, by decide +kernel, rfl, by decide +kernel, by decide +kernel⟩
abbrev s_law_names : Stmt := top 52
abbrev N_law_names : List Str := ["_law_urn_here", "_law_least", "_law_most", "_law_letters", "_law_many"]
theorem sc_law_names : FnScope N_law_names ["_law_urn_here", "_law_least", "_law_most"] (defScope s_law_names) := ⟨rfl, rfl, rfl, by decide +kernel, rfl, by decide +kernel, by decide +kernel⟩
abbrev s_law_twos : Stmt := top 53
abbrev N_law_twos : List Str := ["_law_names_here", "_law_row", "_law_at", "_law_mate"]
theorem sc_law_twos : FnScope N_law_twos ["_law_names_here"] (defScope s_law_twos) := ⟨rfl, rfl, rfl, by decide +kernel, rfl, by decide +kernel, by decide +kernel⟩
abbrev s_law_both : Stmt := top 54
abbrev N_law_both : List Str := ["_law_names_here", "_law_known", "_law_far", "_law_name", "_law_two"]
theorem sc_law_both : FnScope N_law_both ["_law_names_here", "_law_known"] (defScope s_law_both) := ⟨rfl, rfl, rfl, by decide +kernel, rfl, by decide +kernel, by decide +kernel⟩
abbrev s_law_made : Stmt := top 55
abbrev N_law_made : List Str := ["_law_names_here", "_law_far", "_law_two"]
theorem sc_law_made : FnScope N_law_made ["_law_names_here", "_law_far"] (defScope s_law_made) := ⟨rfl, rfl, rfl, by decide +kernel, rfl, by decide +kernel, by decide +kernel⟩
abbrev s_law_lots : Stmt := top 56
abbrev N_law_lots : List Str := ["_law_names_here", "_law_row", "_law_name", "_law_lot"]
theorem sc_law_lots : FnScope N_law_lots ["_law_names_here"] (defScope s_law_lots) := ⟨rfl, rfl, rfl, by decide +kernel, rfl, by decide +kernel, by decide +kernel⟩
abbrev s_law_splits : Stmt := top 57
abbrev N_law_splits : List Str := ["_law_lot", "_law_two"]
theorem sc_law_splits : FnScope N_law_splits ["_law_lot", "_law_two"] (defScope s_law_splits) := ⟨rfl, rfl, rfl, by decide +kernel, rfl, by decide +kernel, by decide +kernel⟩
abbrev s_law_summed : Stmt := top 58
abbrev N_law_summed : List Str := ["_law_names_here", "_law_marks", "_law_lot", "_law_size", "_law_two"]
theorem sc_law_summed : FnScope N_law_summed ["_law_names_here", "_law_marks"] (defScope s_law_summed) := ⟨rfl, rfl, rfl, by decide +kernel, rfl, by decide +kernel, by decide +kernel⟩
abbrev s_law_shortened : Stmt := top 59
abbrev N_law_shortened : List Str := ["_law_names_here", "_law_far", "_law_middle", "_law_one", "_law_two"]
theorem sc_law_shortened : FnScope N_law_shortened ["_law_names_here", "_law_far"] (defScope s_law_shortened) := ⟨rfl, rfl, rfl, by decide +kernel, rfl, by decide +kernel, by decide +kernel⟩
abbrev s_law_world : Stmt := top 60
abbrev N_law_world : List Str := ["_law_urn_here", "_law_least", "_law_most", "_law_names_here", "_law_way", "_law_top", "_law_row", "_law_known", "_law_two", "_law_marks", "_law_turn", "_law_begin", "_law_end"]
theorem sc_law_world : FnScope N_law_world ["_law_urn_here", "_law_least", "_law_most"] (defScope s_law_world) := ⟨rfl, rfl, rfl, by decide +kernel, rfl, by decide +kernel, by decide +kernel⟩
abbrev s_law_fours : Stmt := top 61
abbrev N_law_fours : List Str := ["_law_names_here", "_law_lots_here", "_law_name", "_law_lot"]
theorem sc_law_fours : FnScope N_law_fours ["_law_names_here"] (defScope s_law_fours) := ⟨rfl, rfl, rfl, by decide +kernel, rfl, by decide +kernel, by decide +kernel⟩
abbrev s_law_do_clash : Stmt := top 62
abbrev N_law_do_clash : List Str := ["_law_names_here", "_law_lots_here", "_law_four", "_law_hits", "_law_lot", "_law_inside", "_law_name", "_law_mates", "_law_k"]
theorem sc_law_do_clash : FnScope N_law_do_clash ["_law_names_here", "_law_lots_here"] (defScope s_law_do_clash) := ⟨rfl, rfl, rfl, by decide +kernel, rfl, by decide +kernel, by decide +kernel⟩
abbrev s_law_heard : Stmt := top 63
abbrev N_law_heard : List Str := ["_law_act", "_law_back"]
theorem sc_law_heard : FnScope N_law_heard ["_law_act"] (defScope s_law_heard) := ⟨rfl, rfl, rfl, by decide +kernel, rfl, by decide +kernel, by decide +kernel⟩
abbrev s_law_do_cross : Stmt := top 64
abbrev N_law_do_cross : List Str := ["_law_names_here", "_law_one", "_law_two", "_law_kinds", "_law_name", "_law_kind"]
theorem sc_law_do_cross : FnScope N_law_do_cross ["_law_names_here", "_law_one", "_law_two"] (defScope s_law_do_cross) := ⟨rfl, rfl, rfl, by decide +kernel, rfl, by decide +kernel, by decide +kernel⟩
abbrev s_law_right : Stmt := top 65
abbrev N_law_right : List Str := ["_law_urn_here", "_law_turn", "_law_names_here", "_law_far", "_law_held", "_law_lots_here", "_law_back", "_law_lot", "_law_two", "_law_mate", "_law_again", "_law_one", "_law_three"]
theorem sc_law_right : FnScope N_law_right ["_law_urn_here"] (defScope s_law_right) := ⟨rfl, rfl, rfl, by decide +kernel, rfl, by decide +kernel, by decide +kernel⟩
abbrev s_law : Stmt := top 66
abbrev N_law : List Str := ["_law_script", "_law_turn"]
theorem sc_law : FnScope N_law ["_law_script"] (defScope s_law) := ⟨rfl, rfl, rfl, by decide +kernel, rfl, by decide +kernel, by decide +kernel⟩
end K20
set_option Elab.async false
set_option linter.all false
set_option maxRecDepth 100000
set_option maxHeartbeats 4000000
namespace K20
open PySem PySem.Spec PyProof.Rows L2 Nf
section
variable {P : Program} {w : World} {K : PySem.W.Frag} {mg : Str → Option Value} {base : Heap} {C : Addr} {f : Addr} {fd : FuncData}
abbrev CanX (P : Program) (w : World) (K : PySem.W.Frag) (mg : Str → Option Value) (base : Heap) := Can P w K mg base
/-! ### is_integer_within -/
def sp_iiw : Sp := fun vs H Q _ => ∃ v a b : Int, vs = [.int v, .int a, .int b] ∧ Q (.bl (decide (a ≤ v) && decide (v ≤ b))) H
theorem ok_iiw (F : Fun K "is_integer_within" "is_integer_within" s_is_integer_within f fd) (T : Txt K mg C) : FnOk P w K mg base CX0 1 f fd ["value", "least", "most"] sp_iiw := by
  refine F.ok sc_is_integer_within (fun vs H Q E h => ?_) (fun cdv A outer s H vs Q E hr h => ?_)
  · obtain ⟨v, a, b, rfl, _⟩ := h; rfl
  · obtain ⟨v, a, b, rfl, k⟩ := h
    refine ⟨_, (pss_one (ps_ret (pe_and (pe_callB call_isi (by rfl) T.isinstance (by decide +kernel) (pa_cons (pv 0) (pa_cons (pe_bltn (v := .ty "int") (by rfl) T.int (by decide +kernel) rfl) pa_nil))) (pe_and (pe_not (pe_callB call_isi (by rfl) T.isinstance (by decide +kernel) (pa_cons (pv 0) (pa_cons (pe_bltn (v := .ty "bool") (by rfl) T.bool (by decide +kernel) rfl) pa_nil)))) (pe_one (pe_chain op_le op_le (pv 1) (pv 0) (pv 2))))))), ?_⟩
    refine ⟨_, rfl, _, _, _, _, true, rfl, .ty _, .base (.int _), kit_ty (by decide +kernel), true, rfl, iteT ?_⟩
    refine ⟨_, rfl, _, _, _, _, false, rfl, .ty _, .base (.int _), kit_ty (by decide +kernel), false, rfl, true, rfl, iteT ?_⟩
    refine ⟨_, rfl, _, rfl, _, _, rfl, rfl, _, rfl, ?_⟩
    by_cases h : a ≤ v
    · rw [decide_eq_true h] at k ⊢
      refine iteT ⟨_, rfl, _, _, rfl, rfl, ?_⟩
      exact k
    · rw [decide_eq_false h] at k ⊢
      exact iteF k
/-! ### is_lot -/
def isLotM (v l : List Nat) : Bool := decide (v = l.filter fun c => decide (c ∈ v))
def sp_is_lot : Sp := fun vs H Q _ => ∃ v l : List Nat, vs = [.str (tx v), .str (tx l)] ∧ l.length ≤ 1000 ∧ ∀ H', Sm H H' → Q (.bl (isLotM v l)) H'
theorem ok_is_lot (F : Fun K "is_lot" "is_lot" s_is_lot f fd) (T : Txt K mg C) : FnOk P w K mg base CX0 1 f fd ["value", "letters"] sp_is_lot := by
  refine F.ok sc_is_lot (fun vs H Q E h => ?_) (fun cdv A outer s H vs Q E hr h => ?_)
  · obtain ⟨v, l, rfl, _⟩ := h; rfl
  · obtain ⟨v, l, rfl, hl, k⟩ := h
    refine ⟨_, (pss_one (ps_ret (pe_and (pe_callB call_isi (by rfl) T.isinstance (by decide +kernel) (pa_cons (pv 0) (pa_cons (pe_bltn (v := .ty "str") (by rfl) T.str (by decide +kernel) rfl) pa_nil))) (pe_one (pe_cmpR op_eq (pv 0) (pe_join pe_str (pe_lc (own := [("letter", 2)]) rfl sc_is_lot.nd (pi_str (pv 1)) (blkOk_by (own := [("letter", 2)]) (N := N_is_lot) (sc := defScope s_is_lot) (by decide +kernel)) (fun _ _ _ _ _ => (pg_name (i := 2) sc_is_lot.nd rfl (Or.inl rfl))) (fun _ _ _ _ _ => (pts_one (pt_cmpR op_in_sign (pv 2) (pv 0) rfl))) (fun _ _ _ _ _ => (pv 2)))) (nomark _)))))), ?_⟩
    refine ⟨_, rfl, _, _, _, _, true, rfl, .ty _, .base (.str _), kit_ty (by decide +kernel), true, rfl, iteT ?_⟩
    refine ⟨_, rfl, ⟨_, rfl⟩, _, rfl, tx l, rfl, fun D hD => ?_⟩
    refine lcx (M := m0) (walk_tx l) hD (fun i L _ => L = vtx (((l.take i).filter fun c => decide (c ∈ v)).map fun c => [c])) rfl (fun _ _ => trivial) ?_ ?_
    · rintro i x H1 H2 L hi e hl' hz rfl ⟨rfl, c, hc, rfl⟩
      have tk : l.take (i + 1) = l.take i ++ [c] := by rw [List.take_add_one, hc]; rfl
      refine ⟨rfl, _, rfl, _, rfl, c, tx v, rfl, rfl, _, rfl, ?_⟩
      rw [tx_toList]
      by_cases hm : c ∈ v
      · rw [decide_eq_true hm]
        refine iteT ⟨_, rfl, LW.add hD (.m0 _) e hl' (.refl _ _) ?_ ?_⟩
        · have := List.length_filter_le (fun c => decide (c ∈ v)) (l.take i)
          have h2 : (l.take i).length ≤ l.length := by rw [List.length_take]; omega
          simp only [vtx, List.length_append, List.length_map, List.length_singleton]
          omega
        · rw [tk, List.filter_append, List.map_append, vtx, vtx, List.map_append]
          simp [hm]
      · rw [decide_eq_false hm]
        refine iteF (LW.skip hD (.m0 _) e hl' (.refl _ _) hz ?_)
        rw [tk, List.filter_append, List.map_append, vtx, vtx, List.map_append]
        simp [hm]
    · rintro L H1 e hl' rfl
      rw [List.take_length, vtx_eq] at hl'
      refine ⟨tx [], D, _, rfl, rfl, .inl (SqL.of hl'), ?_, ?_⟩
      · rw [sum_len, flat1]
        have := List.length_filter_le (fun c => decide (c ∈ v)) l
        rw [tx_length, List.length_nil]
        omega
      · rw [tx_join, flat1]
        refine ⟨rfl, ?_⟩
        rw [dec_tx]
        exact k H1 e
/-! ### is_pair, is_parting -/
def isPairM (v l : List Nat) : Bool := isLotM v l && decide (v.length = 2)
def sp_is_pair : Sp := fun vs H Q _ => ∃ v l : List Nat, vs = [.str (tx v), .str (tx l)] ∧ l.length ≤ 1000 ∧ v.length ≤ 1000 ∧ ∀ H', Sm H H' → Q (.bl (isPairM v l)) H'
theorem ok_is_pair (F : Fun K "is_pair" "is_pair" s_is_pair f fd) (T : Txt K mg C) (C_is_lot : Can P w K mg base 1 "is_lot" s_is_lot ["value", "letters"] sp_is_lot) : FnOk P w K mg base CX0 2 f fd ["value", "letters"] sp_is_pair := by
  refine F.ok sc_is_pair (fun vs H Q E h => ?_) (fun cdv A outer s H vs Q E hr h => ?_)
  · obtain ⟨v, l, rfl, _⟩ := h; rfl
  · obtain ⟨v, l, rfl, hl, hv, k⟩ := h
    refine ⟨_, (pss_one (ps_ret (pe_and (pe_can C_is_lot (hr.mono (by decide)) (pa_cons (pv 0) (pa_cons (pv 1) pa_nil))) (pe_one (pe_cmpR op_eq (pe_callB call_len_str (by rfl) T.len PySem.boot_len (pa_cons (pv 0) pa_nil)) pe_int (nomark _)))))), ?_⟩
    refine ⟨_, rfl, _, rfl, v, l, rfl, hl, fun H1 e => ?_⟩
    refine ⟨_, rfl, ?_⟩
    unfold isPairM at k
    cases hb : isLotM v l with
    | true =>
      rw [hb] at k
      refine iteT ⟨_, rfl, tx v, rfl, ?_, ?_⟩
      · rw [tx_length]; exact sz5 (by omega)
      · refine ⟨rfl, ?_⟩
        have q := k H1 e
        rw [tx_length]
        have e2 : decide (V.int (v.length : Int) = V.int 2) = decide (v.length = 2) := by
          rw [dec_int, Bool.eq_iff_iff]
          simp
          omega
        rw [e2]
        exact q
    | false =>
      rw [hb] at k
      exact iteF (k H1 e)
def isPartingM (v l : List Nat) : Bool := isLotM v (l.drop 1) && decide (0 < v.length)
def sp_is_parting : Sp := fun vs H Q _ => ∃ v l : List Nat, vs = [.str (tx v), .str (tx l)] ∧ l.length ≤ 1000 ∧ v.length ≤ 1000 ∧ ∀ H', Sm H H' → Q (.bl (isPartingM v l)) H'
theorem ok_is_parting (F : Fun K "is_parting" "is_parting" s_is_parting f fd) (T : Txt K mg C) (C_is_lot : Can P w K mg base 1 "is_lot" s_is_lot ["value", "letters"] sp_is_lot) : FnOk P w K mg base CX0 2 f fd ["value", "things"] sp_is_parting := by
  refine F.ok sc_is_parting (fun vs H Q E h => ?_) (fun cdv A outer s H vs Q E hr h => ?_)
  · obtain ⟨v, l, rfl, _⟩ := h; rfl
  · obtain ⟨v, l, rfl, hl, hv, k⟩ := h
    refine ⟨_, (pss_one (ps_ret (pe_and (pe_can C_is_lot (hr.mono (by decide)) (pa_cons (pv 0) (pa_cons (pe_slice sl_str (pv 1) (po_some pe_int) po_none) pa_nil))) (pe_one (pe_cmpR op_gt (pe_callB call_len_str (by rfl) T.len PySem.boot_len (pa_cons (pv 0) pa_nil)) pe_int (nomark _)))))), ?_⟩
    refine ⟨_, rfl, _, rfl, 1, rfl, tx l, rfl, ?_, ?_⟩
    · rw [tx_length]; exact sz5 (by omega)
    rw [cut_from1]
    refine ⟨v, l.drop 1, rfl, by rw [List.length_drop]; omega, fun H1 e => ?_⟩
    refine ⟨_, rfl, ?_⟩
    unfold isPartingM at k
    cases hb : isLotM v (l.drop 1) with
    | true =>
      rw [hb] at k
      refine iteT ⟨_, rfl, tx v, rfl, ?_, ?_⟩
      · rw [tx_length]; exact sz5 (by omega)
      · refine ⟨_, _, rfl, rfl, ?_⟩
        have := k H1 e
        rw [tx_length]
        simpa [Bool.true_and] using this
    | false =>
      rw [hb] at k
      exact iteF (k H1 e)
/-! ### the checks, where all is right -/
def sp_chkThings : Sp := fun vs H Q _ => ∃ l : List Nat, vs = [.str (tx l)] ∧ l.length ≤ 1000 ∧ isLotM l lettersL = true ∧ 2 ≤ l.length ∧ l.length ≤ 7 ∧ ∀ H', Sm H H' → Q .non H'
theorem ok_chkThings (F : Fun K "check_things" "check_things" s_check_things f fd) (T : Txt K mg C) (C_is_lot : Can P w K mg base 1 "is_lot" s_is_lot ["value", "letters"] sp_is_lot) : FnOk P w K mg base CX0 2 f fd ["things"] sp_chkThings := by
  refine F.ok sc_check_things (fun vs H Q E h => ?_) (fun cdv A outer s H vs Q E hr h => ?_)
  · obtain ⟨l, rfl, _⟩ := h; rfl
  · obtain ⟨l, rfl, h0, h1, h2, h3, k⟩ := h
    refine ⟨_, (pss_one (ps_if (pt_not (PW.pt (pw_and (pt_val (pe_can C_is_lot (hr.mono (by decide)) (pa_cons (pv 0) (pa_cons (pe_gS T.g_LETTERS) pa_nil)))) (pw_and1 (pt_chain op_le op_le (pe_gI T.g_LEAST_THINGS) (pe_callB call_len_str (by rfl) T.len PySem.boot_len (pa_cons (pv 0) pa_nil)) (pe_gI T.g_MOST_THINGS)))))) (pss_one ps_never) pss_nil)), ?_⟩
    refine ⟨_, rfl, l, lettersL, rfl, by decide, fun H1 e => ⟨true, by rw [h1], iteT ?_⟩⟩
    refine ⟨_, rfl, tx l, rfl, by rw [tx_length]; exact sz5 (by omega), _, _, rfl, rfl, true, ?_, iteT ?_⟩
    · rw [tx_length]; exact congrArg V.bl (decide_eq_true (by omega))
    · refine ⟨_, _, rfl, rfl, true, ?_, ?_⟩
      · rw [tx_length]; exact congrArg V.bl (decide_eq_true (by omega))
      · exact iteF (k H1 e)
def sp_chkPair : Sp := fun vs H Q _ => ∃ l v : List Nat, vs = [.str (tx l), .str (tx v)] ∧ l.length ≤ 1000 ∧ v.length ≤ 1000 ∧ isPairM v l = true ∧ ∀ H', Sm H H' → Q .non H'
theorem ok_chkPair (F : Fun K "check_pair" "check_pair" s_check_pair f fd) (T : Txt K mg C) (C_is_pair : Can P w K mg base 2 "is_pair" s_is_pair ["value", "letters"] sp_is_pair) : FnOk P w K mg base CX0 3 f fd ["things", "pair"] sp_chkPair := by
  refine F.ok sc_check_pair (fun vs H Q E h => ?_) (fun cdv A outer s H vs Q E hr h => ?_)
  · obtain ⟨l, v, rfl, _⟩ := h; rfl
  · obtain ⟨l, v, rfl, h0, h1, h2, k⟩ := h
    refine ⟨_, (pss_one (ps_if (pt_not (pt_val (pe_can C_is_pair (hr.mono (by decide)) (pa_cons (pv 1) (pa_cons (pv 0) pa_nil))))) (pss_one ps_never) pss_nil)), ?_⟩
    exact ⟨_, rfl, _, rfl, v, l, rfl, h0, h1, fun H1 e => ⟨true, by rw [h2], iteF (k H1 e)⟩⟩
def sp_chkParting : Sp := fun vs H Q _ => ∃ l v : List Nat, vs = [.str (tx l), .str (tx v)] ∧ l.length ≤ 1000 ∧ v.length ≤ 1000 ∧ isPartingM v l = true ∧ ∀ H', Sm H H' → Q .non H'
theorem ok_chkParting (F : Fun K "check_parting" "check_parting" s_check_parting f fd) (T : Txt K mg C) (C_is_parting : Can P w K mg base 2 "is_parting" s_is_parting ["value", "things"] sp_is_parting) : FnOk P w K mg base CX0 3 f fd ["things", "parting"] sp_chkParting := by
  refine F.ok sc_check_parting (fun vs H Q E h => ?_) (fun cdv A outer s H vs Q E hr h => ?_)
  · obtain ⟨l, v, rfl, _⟩ := h; rfl
  · obtain ⟨l, v, rfl, h0, h1, h2, k⟩ := h
    refine ⟨_, (pss_one (ps_if (pt_not (pt_val (pe_can C_is_parting (hr.mono (by decide)) (pa_cons (pv 1) (pa_cons (pv 0) pa_nil))))) (pss_one ps_never) pss_nil)), ?_⟩
    exact ⟨_, rfl, _, rfl, v, l, rfl, h0, h1, fun H1 e => ⟨true, by rw [h2], iteF (k H1 e)⟩⟩
/-! ### is_parted, other_lot -/
def isPartedM (p : List Nat) (a b : Nat) : Bool := decide (a ∈ p) != decide (b ∈ p)
def sp_is_parted : Sp := fun vs H Q _ => ∃ (p : List Nat) (a b : Nat), vs = [.str (tx p), .str (tx [a, b])] ∧ Q (.bl (isPartedM p a b)) H
theorem ok_is_parted (F : Fun K "is_parted" "is_parted" s_is_parted f fd) (T : Txt K mg C) : FnOk P w K mg base CX0 1 f fd ["parting", "pair"] sp_is_parted := by
  refine F.ok sc_is_parted (fun vs H Q E h => ?_) (fun cdv A outer s H vs Q E hr h => ?_)
  · obtain ⟨p, a, b, rfl, _⟩ := h; rfl
  · obtain ⟨p, a, b, rfl, k⟩ := h
    refine ⟨_, (pss_one (ps_ret (pe_cmpR op_ne (pe_cmpR op_in_sign (pe_ix ix_str (pv 1) pe_int (fun _ _ => rfl)) (pv 0) rfl) (pe_cmpR op_in_sign (pe_ix ix_str (pv 1) pe_int (fun _ _ => rfl)) (pv 0) rfl) (nomark _)))), ?_⟩
    refine ⟨_, rfl, _, _, a, rfl, rfl, by rw [tx_length]; exact sz5 (by show 2 ≤ _; decide), rfl, _, rfl, a, tx p, rfl, rfl, ?_⟩
    refine ⟨_, rfl, _, _, b, rfl, rfl, by rw [tx_length]; exact sz5 (by show 2 ≤ _; decide), rfl, _, rfl, b, tx p, rfl, rfl, rfl, ?_⟩
    rw [tx_toList, dec_bl]
    exact k
def otherM (l p : List Nat) : List Nat := l.filter fun c => !decide (c ∈ p)
def sp_other_lot : Sp := fun vs H Q _ => ∃ l p : List Nat, vs = [.str (tx l), .str (tx p)] ∧ l.length ≤ 1000 ∧ ∀ H', Sm H H' → Q (.str (tx (otherM l p))) H'
theorem ok_other_lot (F : Fun K "other_lot" "other_lot" s_other_lot f fd) (T : Txt K mg C) : FnOk P w K mg base CX0 1 f fd ["things", "parting"] sp_other_lot := by
  refine F.ok sc_other_lot (fun vs H Q E h => ?_) (fun cdv A outer s H vs Q E hr h => ?_)
  · obtain ⟨l, v, rfl, _⟩ := h; rfl
  · obtain ⟨l, v, rfl, hl, k⟩ := h
    refine ⟨_, (pss_one (ps_ret (pe_join pe_str (pe_lc (own := [("thing", 2)]) rfl sc_other_lot.nd (pi_str (pv 0)) (blkOk_by (own := [("thing", 2)]) (N := N_other_lot) (sc := defScope s_other_lot) (by decide +kernel)) (fun _ _ _ _ _ => (pg_name (i := 2) sc_other_lot.nd rfl (Or.inl rfl))) (fun _ _ _ _ _ => (pts_one (pt_cmpR op_notIn_sign (pv 2) (pv 1) rfl))) (fun _ _ _ _ _ => (pv 2)))))), ?_⟩
    refine ⟨⟨_, rfl⟩, _, rfl, tx l, rfl, fun D hD => ?_⟩
    refine lcx (M := m0) (walk_tx l) hD (fun i L _ => L = vsg ((l.take i).filter fun c => !decide (c ∈ v))) rfl (fun _ _ => trivial) ?_ ?_
    · rintro i x H1 H2 L hi e hl' hz rfl ⟨rfl, c, hc, rfl⟩
      have tk := take_snoc hc
      have hlen : (vsg ((l.take i).filter fun c => !decide (c ∈ v))).length ≤ l.length := by
        rw [vsg, List.length_map]
        refine Nat.le_trans (List.length_filter_le _ _) ?_
        rw [List.length_take]; omega
      refine ⟨rfl, _, rfl, _, rfl, c, tx v, rfl, rfl, _, rfl, ?_⟩
      rw [tx_toList]
      by_cases hm : c ∈ v
      · rw [decide_eq_true hm]
        refine iteF (LW.skip hD (.m0 _) e hl' (.refl _ _) hz ?_)
        rw [tk, List.filter_append]
        simp [hm]
      · rw [decide_eq_false hm]
        refine iteT ⟨_, rfl, LW.add hD (.m0 _) e hl' (.refl _ _) (by rw [List.length_append, List.length_singleton]; omega) ?_⟩
        rw [tk, List.filter_append, vsg, vsg, List.map_append]
        simp [hm]
    · rintro L H1 e hl' rfl
      rw [List.take_length] at hl'
      refine ⟨tx [], D, (otherM l v).map fun c => tx [c], rfl, rfl, .inl (SqL.of ?_), ?_, ?_⟩
      · rw [hl', vsg, List.map_map]; rfl
      · have e1 : (otherM l v).map (fun c => tx [c]) = ((otherM l v).map fun c => [c]).map tx := by rw [List.map_map]; rfl
        rw [e1, sum_len, flat1, tx_length, List.length_nil]
        have := List.length_filter_le (fun c => !decide (c ∈ v)) l
        show (l.filter fun c => !decide (c ∈ v)).length + _ ≤ _
        omega
      · have e1 : (otherM l v).map (fun c => tx [c]) = ((otherM l v).map fun c => [c]).map tx := by rw [List.map_map]; rfl
        rw [e1]
        show Q (.str (Txt.join (tx []) _)) _
        rw [tx_join, flat1]
        exact k H1 e
end
end K20
set_option Elab.async false
set_option linter.all false
set_option maxRecDepth 100000
set_option maxHeartbeats 4000000
namespace K20
open PySem PySem.Spec PyProof.Rows L2 Nf
section
variable {P : Program} {w : World} {K : PySem.W.Frag} {mg : Str → Option Value} {base : Heap} {C : Addr} {f : Addr} {fd : FuncData}
/-! ### pairs_of -/
def sp_pairs_of : Sp := fun vs H Q _ => ∃ l : List Nat, vs = [.str (tx l)] ∧ l.length ≤ 7 ∧ ∀ p H', Sm H H' → H p = none → H' p = some (.lst (vtx (combIx 2 l))) → Q (.ref p) H'
theorem ok_pairs_of (F : Fun K "pairs_of" "pairs_of" s_pairs_of f fd) (T : Txt K mg C) : FnOk P w K mg base CX0 1 f fd ["letters"] sp_pairs_of := by
  refine F.ok sc_pairs_of (fun vs H Q E h => ?_) (fun cdv A outer s H vs Q E hr h => ?_)
  · obtain ⟨l, rfl, _⟩ := h; rfl
  · obtain ⟨l, rfl, hl, k⟩ := h
    refine ⟨_, (pss_one (ps_ret (pe_lc (own := [("first", 1), ("second", 2)]) rfl sc_pairs_of.nd (pi_combK K rfl rfl T.combinations (pa_cons (pv 0) (pa_cons pe_int pa_nil))) (blkOk_by (own := [("first", 1), ("second", 2)]) (N := N_pairs_of) (sc := defScope s_pairs_of) (by decide +kernel)) (fun _ _ _ _ _ => (pg_tup2K K rfl (pgs_cons (pg_name (i := 1) sc_pairs_of.nd rfl (Or.inl rfl) (Or.inr rfl)) (pgs_cons (pg_name (i := 2) sc_pairs_of.nd rfl (Or.inl rfl) (Or.inr rfl)) pgs_nil)))) (fun _ _ _ _ _ => pts_nil) (fun _ _ _ _ _ => (pe_op op_add_str (pv 1) (pv 2)))))), ?_⟩
    refine ⟨_, rfl, _, 2, vsg l, combIx 2 (List.range l.length), rfl, by decide, src_tx (by omega), ?_, fun D hD => ?_⟩
    · rw [vsg, List.length_map]; exact chain7 hl (by decide)
    refine lcx (M := m0) (walk_combT l 2) hD (fun i L _ => L = vtx ((combIx 2 l).take i)) rfl (fun _ _ => trivial) ?_ ?_
    · rintro i x H1 H2 L hi e hl' hz rfl ⟨Tt, row, rfl, hT, rfl, hrow, hlen⟩
      obtain ⟨a, b, rfl⟩ : ∃ a b, row = [a, b] := by
        match row, hlen with
        | [a, b], _ => exact ⟨a, b, rfl⟩
      refine ⟨Tt, _, rfl, SqT.of upd_same, rfl, _, _, rfl, _, _, rfl, rfl, ?_⟩
      refine ⟨rfl, yesT ?_⟩
      refine ⟨_, rfl, _, rfl, tx [a], tx [b], rfl, rfl, by rw [tx_length, tx_length]; exact sz5 (by show 2 ≤ 1000000; decide), ?_⟩
      refine LW.add hD (.m0 _) e hl' (.new hT) ?_ ?_
      · have h1 := vtx_take (combIx 2 l) i
        have h2 := comb7 (r := 2) hl (by decide)
        rw [List.length_append, List.length_singleton]; omega
      · rw [take_snoc hrow, tx_append]
        simp [vtx]
    · rintro L H1 e hl' rfl
      rw [List.take_length] at hl'
      exact k D H1 e hD hl'
/-! ### distances -/
def sp_is_distance : Sp := fun vs H Q _ => ∃ v : Int, vs = [.int v] ∧ 0 ≤ v ∧ v ≤ 1000000 ∧ Q (.bl true) H
theorem ok_is_distance (F : Fun K "is_distance" "is_distance" s_is_distance f fd) (T : Txt K mg C) (C_is_integer_within : Can P w K mg base 1 "is_integer_within" s_is_integer_within ["value", "least", "most"] sp_iiw) : FnOk P w K mg base CX0 2 f fd ["value"] sp_is_distance := by
  refine F.ok sc_is_distance (fun vs H Q E h => ?_) (fun cdv A outer s H vs Q E hr h => ?_)
  · obtain ⟨v, rfl, _⟩ := h; rfl
  · obtain ⟨v, rfl, h0, h1, k⟩ := h
    refine ⟨_, (pss_one (ps_ret (pe_can C_is_integer_within (hr.mono (by decide)) (pa_cons (pv 0) (pa_cons pe_int (pa_cons (pe_gI T.g_MOST_DISTANCE) pa_nil)))))), ?_⟩
    refine ⟨_, rfl, v, 0, 1000000, rfl, ?_⟩
    rw [decide_eq_true h0, decide_eq_true h1]
    exact k
def sp_is_distance_of : Sp := fun vs H Q _ => ∃ (b : Addr) (p : List Nat) (v : Int), vs = [.ref b, .str (tx p)] ∧ H b = some (.tup [.str (tx p), .int v]) ∧ 0 ≤ v ∧ v ≤ 1000000 ∧ Q (.bl true) H
theorem ok_is_distance_of (F : Fun K "is_distance_of" "is_distance_of" s_is_distance_of f fd) (T : Txt K mg C) (C_is_distance : Can P w K mg base 2 "is_distance" s_is_distance ["value"] sp_is_distance) : FnOk P w K mg base CX0 3 f fd ["value", "pair"] sp_is_distance_of := by
  refine F.ok sc_is_distance_of (fun vs H Q E h => ?_) (fun cdv A outer s H vs Q E hr h => ?_)
  · obtain ⟨b, p, v, rfl, _⟩ := h; rfl
  · obtain ⟨b, p, v, rfl, hb, h0, h1, k⟩ := h
    refine ⟨_, (pss_cons (ps_if (PW.pt (pw_or (pt_not (pt_val (pe_callB call_isi (by rfl) T.isinstance (by decide +kernel) (pa_cons (pv 0) (pa_cons (pe_bltn (v := .ty "tuple") (by rfl) T.tuple (by decide +kernel) rfl) pa_nil))))) (pw_or1 (pt_cmpR op_ne (pe_callB (call_len_seqK K) (by rfl) T.len PySem.boot_len (pa_cons (pv 0) pa_nil)) pe_int (nomark _))))) (pss_one (ps_ret pe_bl)) pss_nil)
      (pss_one (ps_ret (pe_and (pe_callB call_isi (by rfl) T.isinstance (by decide +kernel) (pa_cons (pe_ix (ix_tupK K) (pv 0) pe_int (fun _ _ => rfl)) (pa_cons (pe_bltn (v := .ty "str") (by rfl) T.str (by decide +kernel) rfl) pa_nil))) (pe_and (pe_cmpR op_eq (pe_ix (ix_tupK K) (pv 0) pe_int (fun _ _ => rfl)) (pv 1) (nomark _)) (pe_one (pe_can C_is_distance (hr.mono (by decide)) (pa_cons (pe_ix (ix_tupK K) (pv 0) pe_int (fun _ _ => rfl)) pa_nil)))))))), ?_⟩
    refine ⟨_, rfl, _, _, _, _, true, rfl, .ty _, .base (.tup hb), kit_ty (by decide +kernel), true, rfl, iteF ?_⟩
    refine ⟨_, rfl, b, _, rfl, .inr (SqT.of hb), rfl, false, rfl, iteF ?_⟩
    refine ⟨_, rfl, b, _, _, _, rfl, rfl, SqT.of hb, rfl, _, _, _, _, true, rfl, .ty _, .base (.str _), kit_ty (by decide +kernel), true, rfl, iteT ?_⟩
    refine ⟨_, rfl, b, _, _, _, rfl, rfl, SqT.of hb, rfl, _, rfl, rfl, true, congrArg V.bl (decide_eq_true rfl), iteT ?_⟩
    exact ⟨_, rfl, b, _, _, _, rfl, rfl, SqT.of hb, rfl, v, rfl, h0, h1, k⟩
/-- rows of a table: each pair of the letters in its turn, a distance -/
def Good (l : List Nat) (rows : List (List Nat × Int)) : Prop := rows.map (·.1) = combIx 2 l ∧ ∀ r ∈ rows, 0 ≤ r.2 ∧ r.2 ≤ 1000000
/-- a tuple of tracked pairs -/
def RowsT (H : Hp) (a : Addr) (rows : List (List Nat × Int)) : Prop :=
  ∃ as : List Addr, H a = some (.tup (as.map V.ref)) ∧ as.length = rows.length ∧ ∀ (i : Nat) b r, as[i]? = some b → rows[i]? = some r → H b = some (.tup [.str (tx r.1), .int r.2])
theorem RowsT.sm {H H' : Hp} {a : Addr} {rows : List (List Nat × Int)} (r : RowsT H a rows) (e : Sm H H') : RowsT H' a rows := by
  obtain ⟨as, h1, h2, h3⟩ := r
  exact ⟨as, e a _ h1, h2, fun i b r hb hr => e b _ (h3 i b r hb hr)⟩
def sp_check_distances : Sp := fun vs H Q _ => ∃ (l : List Nat) (a : Addr) (rows : List (List Nat × Int)), vs = [.str (tx l), .ref a] ∧ l.length ≤ 7 ∧ RowsT H a rows ∧ Good l rows ∧ ∀ H', Sm H H' → Q .non H'
theorem ok_check_distances (F : Fun K "check_distances" "check_distances" s_check_distances f fd) (T : Txt K mg C) (C_pairs_of : Can P w K mg base 1 "pairs_of" s_pairs_of ["letters"] sp_pairs_of)
    (C_is_distance_of : Can P w K mg base 3 "is_distance_of" s_is_distance_of ["value", "pair"] sp_is_distance_of) : FnOk P w K mg base CX0 4 f fd ["things", "distances"] sp_check_distances := by
  refine F.ok sc_check_distances (fun vs H Q E h => ?_) (fun cdv A outer s H vs Q E hr h => ?_)
  · obtain ⟨l, a, rows, rfl, _⟩ := h; rfl
  · obtain ⟨l, a, rows, rfl, hl, hR, hG, k⟩ := h
    obtain ⟨as, ha, hlen, hrow⟩ := id hR
    have hlr : rows.length = (combIx 2 l).length := by rw [← hG.1, List.length_map]
    refine ⟨_, (pss_cons (ps_if (pt_not (pt_val (pe_callB call_isi (by rfl) T.isinstance (by decide +kernel) (pa_cons (pv 1) (pa_cons (pe_bltn (v := .ty "tuple") (by rfl) T.tuple (by decide +kernel) rfl) pa_nil))))) (pss_one ps_never) pss_nil)
      (pss_cons (ps_set (i := 2) sc_check_distances.nd rfl (Or.inl rfl) (pe_can C_pairs_of (hr.mono (by decide)) (pa_cons (pv 0) pa_nil)))
      (pss_cons (ps_for PassesOwn.never rfl (pi_enumT (by rfl) T.enumerate (pa_cons (pv 1) pa_nil)) (pg_tup2K K rfl (pgs_cons (pg_name (i := 3) sc_check_distances.nd rfl (Or.inl rfl) (Or.inr rfl)) (pgs_cons (pg_name (i := 4) sc_check_distances.nd rfl (Or.inl rfl) (Or.inr rfl)) pgs_nil)))
      (pss_one (ps_if (PW.pt (pw_or (pt_cmpR op_eq (pv 3) (pe_callB (call_len_seqK K) (by rfl) T.len PySem.boot_len (pa_cons (pv 2) pa_nil)) (nomark _)) (pw_or1 (pt_not (pt_val (pe_can C_is_distance_of (hr.mono (by decide)) (pa_cons (pv 4) (pa_cons (pe_ix (ix_listK K) (pv 2) (pv 3) (fun _ _ => rfl)) pa_nil)))))))) (pss_one ps_never) pss_nil)))
      (pss_one (ps_if (pt_cmpR op_lt (pe_callB (call_len_seqK K) (by rfl) T.len PySem.boot_len (pa_cons (pv 1) pa_nil)) (pe_callB (call_len_seqK K) (by rfl) T.len PySem.boot_len (pa_cons (pv 2) pa_nil)) (nomark _)) (pss_one ps_never) pss_nil))))), ?_⟩
    refine ⟨_, rfl, _, _, _, _, true, rfl, .ty _, .base (.tup ha), kit_ty (by decide +kernel), true, rfl, iteF ?_⟩
    refine ⟨_, rfl, l, rfl, hl, fun p H1 e1 np hp => ?_⟩
    have ha1 := e1.at ha
    refine ⟨_, rfl, a, _, rfl, SqT.of ha1, for_it walk_enumT (fun i σ H' => Sm H1 H' ∧ ∃ x y, σ = [some (.str (tx l)), some (.ref a), some (.ref p), x, y]) ⟨.refl _ _, _, _, rfl⟩ (fun i σ H' _ ⟨e, _⟩ => SqT.of (Sm.at e ha1)) ?_ ?_⟩
    · rintro i x σ H2 H3 hi ⟨e2, u, v, rfl⟩ ⟨Tt, y, rfl, nT, rfl, hy⟩
      have e3 : Sm H1 (upd H2 Tt (.tup [.int (i : Nat), y])) := e2.trans (.new nT)
      rw [List.getElem?_map] at hy
      obtain ⟨b, hb, rfl⟩ : ∃ b, as[i]? = some b ∧ y = V.ref b := by
        cases q : as[i]? with
        | none => rw [q] at hy; cases hy
        | some b => rw [q] at hy; exact ⟨b, rfl, (Option.some.inj hy).symm⟩
      have hir : i < rows.length := by rw [← hlen]; exact (List.getElem?_eq_some_iff.mp hb).1
      have hrr : rows[i]? = some rows[i] := List.getElem?_eq_getElem hir
      have hbr := (e1.trans e3).at rfl (hrow i b _ hb hrr)
      have hp3 := Sm.at e3 hp
      have hg := hG.2 _ (List.mem_of_getElem? hrr)
      have hpr : (combIx 2 l)[i]? = some (rows[i]).1 := by rw [← hG.1, List.getElem?_map, hrr]; rfl
      have hne : ((i : Nat) : Int) ≠ ((vtx (combIx 2 l)).length : Int) := by rw [vtx, List.length_map]; omega
      refine ⟨Tt, _, rfl, SqT.of upd_same, rfl, _, _, rfl, _, _, rfl, rfl, ?_⟩
      refine ⟨_, rfl, _, rfl, p, _, rfl, .inl (SqL.of hp3), rfl, false, congrArg V.bl (decide_eq_false fun q => hne (by injection q)), iteF ?_⟩
      refine ⟨_, rfl, _, rfl, _, rfl, p, _, _, .str (tx (rows[i]).1), rfl, rfl, SqL.of hp3, ?_, ?_⟩
      · exact atI_nat (by rw [vtx, List.getElem?_map, hpr]; rfl)
      · refine ⟨b, (rows[i]).1, (rows[i]).2, rfl, hbr, hg.1, hg.2, true, rfl, iteF ?_⟩
        exact ⟨e3, _, _, rfl⟩
    · rintro σ H2 ⟨e2, u, v, rfl⟩
      refine ⟨_, rfl, a, _, rfl, .inr (SqT.of (Sm.at e2 ha1)), _, rfl, p, _, rfl, .inl (SqL.of (Sm.at e2 hp)), _, _, rfl, rfl, false, ?_, iteF (k H2 (e1.trans e2))⟩
      refine congrArg V.bl (decide_eq_false ?_)
      rw [List.length_map, vtx, List.length_map, hlen, hlr]
      omega
end
end K20
set_option Elab.async false
set_option linter.all false
set_option maxRecDepth 100000
set_option maxHeartbeats 4000000
namespace K20
open PySem PySem.Spec PyProof.Rows L2 Nf
section
variable {P : Program} {w : World} {K : PySem.W.Frag} {mg : Str → Option Value} {base : Heap} {C : Addr} {f : Addr} {fd : FuncData}
/-! ### both_ways -/
def sp_both_ways : Sp := fun vs H Q _ => ∃ (l : List Nat) (a : Addr) (rows : List (List Nat × Int)), vs = [.str (tx l), .ref a] ∧ l.length ≤ 100 ∧ rows.length ≤ 1000 ∧ (∀ r ∈ rows, r.1.length ≤ 1000) ∧ RowsT H a rows ∧ ∀ p H', Sm H H' → H p = none → H' p = some (.dK (bothD l rows)) → Q (.ref p) H'
theorem ok_both_ways (F : Fun K "both_ways" "both_ways" s_both_ways f fd) (T : Txt K mg C) : FnOk P w K mg base CX0 1 f fd ["places", "rows"] sp_both_ways := by
  refine F.ok sc_both_ways (fun vs H Q E h => ?_) (fun cdv A outer s H vs Q E hr h => ?_)
  · obtain ⟨l, a, rows, rfl, _⟩ := h; rfl
  · obtain ⟨l, a, rows, rfl, hl, hrl, hr1, hR, k⟩ := h
    obtain ⟨as, ha, hlen, hrow⟩ := id hR
    have hu := hu_of hr
    have z : sizeLine = 16777216 := sizeLine_eq
    refine ⟨_, (pss_cons (ps_setDc (i := 2) (own := [("place", 3)]) rfl sc_both_ways.nd rfl rfl (swd_true rfl rfl rfl (by decide +kernel)) (pi_str (pv 0)) (blkOk_by (own := [("place", 3)]) (N := N_both_ways) (sc := defScope s_both_ways) (by decide +kernel)) (fun _ _ _ _ _ => (pg_name (i := 3) sc_both_ways.nd rfl (Or.inl rfl) (Or.inr rfl))) (fun _ _ _ _ _ => pts_nil) (fun _ _ _ _ _ => (pe_op op_add_str (pv 3) (pv 3))) (fun _ _ _ _ _ => pe_int))
      (pss_cons (ps_for PassesOwn.never rfl (pi_tupK K (pv 1)) (pg_tup2K K rfl (pgs_cons (pg_name (i := 4) sc_both_ways.nd rfl (Or.inl rfl) (Or.inr rfl)) (pgs_cons (pg_name (i := 5) sc_both_ways.nd rfl (Or.inl rfl) (Or.inr rfl)) pgs_nil)))
      (pss_cons (ps_dput hu (pv 2) (pv 4) (pv 5) rfl)
      (pss_one (ps_dput hu (pv 2) (pe_back (pv 4)) (pv 5) rfl))))
      (pss_one (ps_ret (pv 2))))), ?_⟩
    refine ⟨_, rfl, tx l, rfl, fun D hD => ?_⟩
    refine dcx (walk_tx l) hD (fun i => selfD (l.take i)) rfl (fun _ _ => trivial) ?_ ?_
    · rintro i x H1 H2 hi e hd ⟨rfl, c, hc, rfl⟩
      refine ⟨rfl, yesT ?_⟩
      refine ⟨_, rfl, _, rfl, tx [c], tx [c], rfl, rfl, by rw [tx_length]; exact sz5 (by show 2 ≤ 1000000; decide), ?_⟩
      refine ⟨_, Sum.inr (tx [c, c]), ?_, hd, ?_, ?_⟩
      · rw [tx_append]; rfl
      · have := selfD_len (l.take i)
        rw [List.length_take] at this
        omega
      · exact ⟨Ext.mut e hD, by show _ = some (HO.dK (selfD (l.take (i + 1)))); rw [selfD_snoc hc]; exact upd_same⟩
    · rintro H1 e hd
      rw [List.take_length] at hd
      have ha1 := Sm.at e ha
      have hDa : D ≠ a := fun q => by rw [q] at hD; rw [ha] at hD; cases hD
      refine ⟨_, rfl, a, rfl, ⟨_, SqT.of ha1⟩, for_it walk_tup (fun i σ H' => Sm H H' ∧ H' D = some (.dK (bothD l (rows.take i))) ∧ ∃ x y, σ = [some (.str (tx l)), some (.ref a), some (.ref D), none, x, y]) ⟨e, hd, none, none, rfl⟩ (fun i σ H' _ ⟨e', _⟩ => SqT.of (Sm.at e' ha)) ?_ ?_⟩
      · rintro i x σ H2 H3 hi ⟨e2, hd2, u, v, rfl⟩ ⟨rfl, hx⟩
        rw [List.getElem?_map] at hx
        obtain ⟨b, hb, rfl⟩ : ∃ b, as[i]? = some b ∧ x = V.ref b := by
          cases q : as[i]? with
          | none => rw [q] at hx; cases hx
          | some b => rw [q] at hx; exact ⟨b, rfl, (Option.some.inj hx).symm⟩
        have hir : i < rows.length := by rw [← hlen]; exact (List.getElem?_eq_some_iff.mp hb).1
        have hrr : rows[i]? = some rows[i] := List.getElem?_eq_getElem hir
        have hbr := Sm.at e2 (hrow i b _ hb hrr)
        have hlb := bothD_len l (rows.take i)
        rw [List.length_take] at hlb
        refine ⟨b, _, rfl, SqT.of hbr, rfl, _, _, rfl, _, _, rfl, rfl, ?_⟩
        refine ⟨_, rfl, _, rfl, _, rfl, D, _, rfl, DPut.k (k := Sum.inr (tx (rows[i]).1)) hd2 (by omega), ?_⟩
        refine ⟨_, rfl, _, rfl, _, rfl, (rows[i]).1, rfl, hr1 _ (List.mem_of_getElem? hrr), D, _, rfl, DPut.k (k := Sum.inr (tx (rows[i]).1.reverse)) upd_same ?_, ?_⟩
        · have := putK_len (bothD l (rows.take i)) (Sum.inr (tx (rows[i]).1)) (.int (rows[i]).2)
          omega
        · refine ⟨Ext.mut (Ext.mut e2 hD) hD, ?_, _, _, rfl⟩
          rw [bothD_snoc hrr, upd_same]
          rfl
      · rintro σ H2 ⟨e2, hd2, u, v, rfl⟩
        rw [List.length_map, hlen, List.take_length] at hd2
        exact ⟨_, rfl, k D H2 e2 hD hd2⟩
/-! ### Table -/
def tfs (l : List Nat) (a lt : Addr) : List (Str × V) := putF "_lengths" (.ref lt) (putF "_distances" (.ref a) (putF "_things" (.str (tx l)) []))
/-- a table of these things and rows stands at t -/
def TableAt (C : Addr) (H : Hp) (t : Addr) (l : List Nat) (rows : List (List Nat × Int)) : Prop := ∃ dx a lt, H t = some (.ins C dx (tfs l a lt)) ∧ RowsT H a rows ∧ H lt = some (.dK (bothD l rows))
theorem TableAt.sm {H H' : Hp} {t : Addr} {l : List Nat} {rows : List (List Nat × Int)} (h : TableAt C H t l rows) (e : Sm H H') : TableAt C H' t l rows := by
  obtain ⟨dx, a, lt, h1, h2, h3⟩ := h
  exact ⟨dx, a, lt, e _ _ h1, h2.sm e, e _ _ h3⟩
theorem tfs_things (l : List Nat) (a lt : Addr) : (tfs l a lt).lookup ("_things" : Str) = some (.str (tx l)) := by
  unfold tfs
  rw [lookup_putF, if_neg (by decide), lookup_putF, if_neg (by decide), lookup_putF, if_pos rfl]
structure TxtC (K : PySem.W.Frag) (C : Addr) : Prop where
  nT : NoAttr K C "_things"
  nD : NoAttr K C "_distances"
  nL : NoAttr K C "_lengths"
def sp_Table (C : Addr) : Sp := fun vs H Q _ => ∃ (H0 : Hp) (x dx : Addr) (l : List Nat) (a : Addr) (rows : List (List Nat × Int)), vs = [.ref x, .str (tx l), .ref a] ∧ Sm H0 H ∧ H0 x = none ∧ H x = some (.ins C dx []) ∧
  isLotM l lettersL = true ∧ 2 ≤ l.length ∧ l.length ≤ 7 ∧ RowsT H0 a rows ∧ Good l rows ∧ ∀ H', Sm H0 H' → TableAt C H' x l rows → Q .non H'
theorem ok_Table (F : Fun K "__init__" "Table.__init__" s_Table_init f fd) (T : Txt K mg C) (TC : TxtC K C) (C_check_things : Can P w K mg base 2 "check_things" s_check_things ["things"] sp_chkThings)
    (C_check_distances : Can P w K mg base 4 "check_distances" s_check_distances ["things", "distances"] sp_check_distances) (C_both_ways : Can P w K mg base 1 "both_ways" s_both_ways ["places", "rows"] sp_both_ways) :
    FnOk P w K mg base CX0 5 f fd ["self", "things", "distances"] (sp_Table C) := by
  refine F.ok sc_Table_init (fun vs H Q E h => ?_) (fun cdv A outer s H vs Q E hr h => ?_)
  · obtain ⟨_, _, _, _, _, _, rfl, _⟩ := h; rfl
  · obtain ⟨H0, x, dx, l, a, rows, rfl, s0, x0, hx, h1, h2, h3, hR, hG, k⟩ := h
    refine ⟨_, (pss_cons (ps_expr (pe_can C_check_things (hr.mono (by decide)) (pa_cons (pv 1) pa_nil)))
      (pss_cons (ps_expr (pe_can C_check_distances (hr.mono (by decide)) (pa_cons (pv 1) (pa_cons (pv 2) pa_nil))))
      (pss_cons (ps_fld (pv 0) (pv 1) rfl)
      (pss_cons (ps_fld (pv 0) (pv 2) rfl)
      (pss_one (ps_fld (pv 0) (pe_can C_both_ways (hr.mono (by decide)) (pa_cons (pv 1) (pa_cons (pv 2) pa_nil))) rfl)))))), ?_⟩
    refine ⟨_, rfl, l, rfl, by omega, h1, h2, h3, fun H1 e1 => ?_⟩
    refine ⟨_, rfl, _, rfl, l, a, rows, rfl, h3, hR.sm (s0.trans e1), hG, fun H2 e2 => ?_⟩
    have hx2 := Sm.at (e1.trans e2) hx
    have s2 : Sm H0 H2 := (s0.trans e1).trans e2
    refine ⟨_, rfl, _, rfl, x, C, dx, _, rfl, hx2, T.cl, TC.nT, by show 0 < 1000; decide, ?_⟩
    have s3 : Sm H0 (upd H2 x (.ins C dx (putF "_things" (.str (tx l)) []))) := Ext.mut s2 x0
    refine ⟨_, rfl, _, rfl, x, C, dx, _, rfl, upd_same, T.cl, TC.nD, by show 1 < 1000; decide, ?_⟩
    rw [upd_upd]
    have s4 : Sm H0 (upd H2 x (.ins C dx (putF "_distances" (.ref a) (putF "_things" (.str (tx l)) [])))) := Ext.mut s2 x0
    have hrl : rows.length ≤ 1000 := by
      have := comb7 (r := 2) h3 (by decide)
      rw [← hG.1, List.length_map] at this
      omega
    refine ⟨_, rfl, _, rfl, l, a, rows, rfl, by omega, hrl, ?_, hR.sm s4, fun lt H5 e5 nl hl => ?_⟩
    · intro r hr'
      have : r.1 ∈ combIx 2 l := by rw [← hG.1]; exact List.mem_map_of_mem hr'
      rw [combIx_len _ _ _ this]; decide
    · refine ⟨_, rfl, x, C, dx, _, rfl, Sm.at e5 upd_same, T.cl, TC.nL, ?_, ?_⟩
      · have h1 := length_putF "_distances" (.ref a) (putF "_things" (.str (tx l)) [])
        have h2 := length_putF "_things" (.str (tx l)) []
        simp only [List.length_nil] at h2
        omega
      · have s6 := Ext.mut (s4.trans e5) x0 (o := .ins C dx (tfs l a lt))
        refine k _ s6 ⟨dx, a, lt, upd_same, hR.sm s6, ?_⟩
        have hne : lt ≠ x := fun q => by rw [q, upd_same] at nl; cases nl
        rw [upd_ne hne]
        exact hl
end
end K20
set_option Elab.async false
set_option linter.all false
set_option maxRecDepth 100000
set_option maxHeartbeats 4000000
namespace K20
open PySem PySem.Spec PyProof.Rows L2 Nf
section
variable {P : Program} {w : World} {K : PySem.W.Frag} {mg : Str → Option Value} {base : Heap} {C : Addr} {f : Addr} {fd : FuncData}
/-! ### lots_of -/
def lotsL (l : List Nat) : List (List Nat) := (List.range l.length).flatMap fun k => combIx (k + 1) l
theorem lots_all : ((List.range 7).all fun n => decide ((lotsL (List.range n)).length < 64)) = true := by decide +kernel
theorem lots_small {l : List Nat} (h : l.length ≤ 6) : (lotsL l).length < 64 := by
  have e : (lotsL l).length = (lotsL (List.range l.length)).length := by
    unfold lotsL
    rw [List.length_flatMap, List.length_flatMap, List.length_range]
    congr 1
    refine List.map_congr_left fun k _ => ?_
    rw [← comb_rows (k + 1) l, List.length_map]
  rw [e]
  exact of_decide_eq_true (List.all_eq_true.mp lots_all l.length (List.mem_range.mpr (by omega)))
theorem range_flat {α : Type} (g : Nat → List α) (i : Nat) : (List.range (i + 1)).flatMap g = (List.range i).flatMap g ++ g i := by
  rw [List.range_succ, List.flatMap_append]; simp
def sp_lots_of : Sp := fun vs H Q _ => ∃ l : List Nat, vs = [.str (tx l), .int 1] ∧ l.length ≤ 6 ∧ ∀ p H', Sm H H' → H p = none → H' p = some (.lst (vtx (srt (lotsL l)))) → Q (.ref p) H'
theorem ok_lots_of (F : Fun K "lots_of" "lots_of" s_lots_of f fd) (T : Txt K mg C) : FnOk P w K mg base CX0 1 f fd ["letters", "least"] sp_lots_of := by
  refine F.ok sc_lots_of (fun vs H Q E h => ?_) (fun cdv A outer s H vs Q E hr h => ?_)
  · obtain ⟨l, rfl, _⟩ := h; rfl
  · obtain ⟨l, rfl, hl, k⟩ := h
    have ez : ((tx l).length : Int) = l.length := by rw [tx_length]
    refine ⟨_, (pss_one (ps_ret (pe_callB (cr_sortedSK K) (by rfl) T.sorted (by decide +kernel) (pa_cons (pe_lc2 (own := [("size", 2), ("lot", 3)]) (vs1 := [3]) rfl sc_lots_of.nd (pi_range2 (by rfl) T.range (pa_cons (pv 1) (pa_cons (pe_op op_add (pe_callB call_len_str (by rfl) T.len PySem.boot_len (pa_cons (pv 0) pa_nil)) pe_int) pa_nil))) (blkOk_by (own := [("size", 2), ("lot", 3)]) (N := N_lots_of) (sc := defScope s_lots_of) (by decide +kernel)) (by decide) (fun _ _ _ _ _ => (pg_name (i := 2) sc_lots_of.nd rfl (Or.inl rfl) (Or.inr rfl))) (fun _ _ _ _ _ => pts_nil) (fun _ _ _ _ _ => (pi_combK K rfl rfl T.combinations (pa_cons (pv 0) (pa_cons (pv 2) pa_nil)))) (fun _ _ _ _ _ => (pg_name (i := 3) sc_lots_of.nd rfl (Or.inl rfl) (Or.inr rfl))) (fun _ _ _ _ _ => pts_nil) (fun _ _ _ _ _ => (pe_joinK K pe_str (pv 3)))) pa_nil)))), ?_⟩
    refine ⟨_, rfl, _, rfl, tx l, rfl, by rw [tx_length]; exact sz5 (by omega), _, _, rfl, rfl, 1, _, rfl, ⟨by decide, by decide, ?_, ?_⟩, fun D hD => ?_⟩
    · rw [ez]; have : (l.length : Int) ≤ 6 := by omega
      omega
    · rw [ez]; have : (l.length : Int) ≤ 6 := by omega
      omega
    have en : (((tx l).length : Int) + 1 - 1).toNat = l.length := by rw [ez]; omega
    rw [en]
    refine lcx_out (M := m0) walk_range hD (fun i L _ => L = vtx ((List.range i).flatMap fun k => combIx (k + 1) l)) rfl (fun _ _ => trivial) ?_ ?_
    · rintro i x H1 H2 L hi e hl' hz rfl ⟨rfl, hx⟩
      have ex : x = V.int ((i + 1 : Nat) : Int) := by rw [hx]; exact congrArg V.int (by omega)
      subst ex
      refine ⟨rfl, yesT ?_⟩
      refine ⟨_, rfl, _, rfl, _, i + 1, vsg l, combIx (i + 1) (List.range l.length), rfl, by omega, src_tx (by omega), ?_, ?_⟩
      · rw [vsg, List.length_map]; exact chain7 (by omega) (by omega)
      refine lcx_in (H4 := H2) (walk_combT l (i + 1)) (fun j L _ => L = vtx (((List.range i).flatMap fun k => combIx (k + 1) l) ++ (combIx (i + 1) l).take j)) ⟨e, _, hl', hz, by show _ = vtx (_ ++ List.take 0 _); rw [List.take_zero, List.append_nil]⟩ (fun _ _ _ _ => trivial) ?_ ?_
      · rintro j y H3 H4 L2 hj e2 hl2 hz2 rfl ⟨Tt, row, rfl, hT, rfl, hrow, hlen⟩
        refine ⟨rfl, yesT ?_⟩
        refine ⟨⟨_, rfl⟩, _, rfl, tx [], Tt, row.map fun c => tx [c], rfl, rfl, .inr (SqT.of ?_), ?_, ?_⟩
        · rw [upd_same, vsg, List.map_map]; rfl
        · have e1 : row.map (fun c => tx [c]) = (row.map fun c => [c]).map tx := by rw [List.map_map]; rfl
          rw [e1, sum_len, flat1, tx_length, List.length_nil]
          omega
        · have e1 : row.map (fun c => tx [c]) = (row.map fun c => [c]).map tx := by rw [List.map_map]; rfl
          rw [e1, tx_join, flat1]
          refine LW.add hD (.m0 _) e2 hl2 (.new hT) ?_ ?_
          · have h1 := comb7 (r := i + 1) (l := l) (by omega) (by omega)
            have h2 := lots_small hl
            have h3 : ((List.range i).flatMap fun k => combIx (k + 1) l).length ≤ (lotsL l).length := by
              unfold lotsL
              rw [show l.length = i + (l.length - i) by omega, List.range_add, List.flatMap_append, List.length_append]
              omega
            rw [List.length_append, List.length_singleton, vtx, List.length_map, List.length_append, List.length_take]
            omega
          · rw [take_snoc hrow, ← List.append_assoc]
            simp only [vtx, List.map_append, List.map_cons, List.map_nil]
      · rintro H3 ⟨e3, L3, hl3, hz3, rfl⟩
        refine ⟨e3, _, hl3, hz3, ?_⟩
        show _ = vtx (List.flatMap _ (List.range (i + 1)))
        rw [List.take_length, range_flat]
    · rintro L H1 e hl' rfl
      have e0 : vtx ((List.range l.length).flatMap fun k => combIx (k + 1) l) = ((lotsL l).map tx).map V.str := vtx_eq _
      rw [e0] at hl'
      refine ⟨D, (lotsL l).map tx, rfl, SqL.of hl', by rw [List.length_map]; exact lots_small hl, fun ys p hp hs hn => ?_⟩
      rw [sorted_is hp hs]
      refine k p _ (Ext.mut e (e.fresh rfl hn)) (e.fresh rfl hn) ?_
      rw [upd_same, vtx_eq]
/-! ### what a table tells -/
structure TxtI (K : PySem.W.Frag) (C : Addr) : Prop where
  ha : PySem.W.findIn K (.ref C) "__class__" = some (some (.builtin "object.__class__"))
  hn : PySem.W.specialIn K (.builtin "object.__class__") "__get__" = some (some (.builtin "getset_descriptor.__get__"))
  htk : PySem.W.takesIn K (.builtin "object.__class__") = some true
  hm : PySem.W.mroIn K C (.type "object") = some true
/-- a table of these things -/
def Tb (C : Addr) (H : Hp) (t : Addr) (l : List Nat) : Prop := ∃ dx fs, H t = some (.ins C dx fs) ∧ fs.lookup ("_things" : Str) = some (.str (tx l))
theorem TableAt.tb {H : Hp} {t : Addr} {l : List Nat} {rows : List (List Nat × Int)} (h : TableAt C H t l rows) : Tb C H t l := by
  obtain ⟨dx, a, lt, h1, _⟩ := h
  exact ⟨dx, _, h1, tfs_things l a lt⟩
theorem Tb.sm {H H' : Hp} {t : Addr} {l : List Nat} (h : Tb C H t l) (e : Sm H H') : Tb C H' t l := by
  obtain ⟨dx, fs, h1, h2⟩ := h
  exact ⟨dx, fs, e _ _ h1, h2⟩
def sp_check_table (C : Addr) : Sp := fun vs H Q _ => ∃ (t : Addr) (l : List Nat), vs = [.ref t] ∧ Tb C H t l ∧ Q .non H
theorem ok_check_table (F : Fun K "check_table" "check_table" s_check_table f fd) (T : Txt K mg C) (TI : TxtI K C) : FnOk P w K mg base CX0 1 f fd ["table"] (sp_check_table C) := by
  refine F.ok sc_check_table (fun vs H Q E h => ?_) (fun cdv A outer s H vs Q E hr h => ?_)
  · obtain ⟨_, _, rfl, _⟩ := h; rfl
  · obtain ⟨t, l, rfl, ⟨dx, fs, ht, hf⟩, k⟩ := h
    refine ⟨_, (pss_one (ps_if (pt_not (pt_val (pe_callB call_isi (by rfl) T.isinstance (by decide +kernel) (pa_cons (pv 0) (pa_cons (pe_glob (v := V.ref C) rfl T.g_Table rfl) pa_nil))))) (pss_one ps_never) pss_nil)), ?_⟩
    exact ⟨_, rfl, _, _, _, _, true, rfl, .own C, .base (.ins ht T.cl TI.ha TI.hn TI.htk TI.hm), if_pos (beq_self_eq_true _), true, rfl, iteF k⟩
abbrev CTh (P : Program) (w : World) (K : PySem.W.Frag) (mg : Str → Option Value) (base : Heap) (C : Addr) := CanP P w K mg base C "things" "_things"
def sp_partings (C : Addr) : Sp := fun vs H Q _ => ∃ (t : Addr) (l : List Nat), vs = [.ref t] ∧ Tb C H t l ∧ l.length ≤ 7 ∧ ∀ p H', Sm H H' → H p = none → H' p = some (.tup (vtx (srt (lotsL (l.drop 1))))) → Q (.ref p) H'
theorem ok_partings (F : Fun K "partings" "partings" s_partings f fd) (T : Txt K mg C) (C_things : CTh P w K mg base C) (C_check_table : Can P w K mg base 1 "check_table" s_check_table ["table"] (sp_check_table C))
    (C_lots_of : Can P w K mg base 1 "lots_of" s_lots_of ["letters", "least"] sp_lots_of) : FnOk P w K mg base CX0 3 f fd ["table"] (sp_partings C) := by
  refine F.ok sc_partings (fun vs H Q E h => ?_) (fun cdv A outer s H vs Q E hr h => ?_)
  · obtain ⟨_, _, rfl, _⟩ := h; rfl
  · obtain ⟨t, l, rfl, hT, h7, k⟩ := h
    obtain ⟨dx, fs, ht, hf⟩ := id hT
    refine ⟨_, (pss_cons (ps_expr (pe_can C_check_table (hr.mono (by decide)) (pa_cons (pv 0) pa_nil)))
      (pss_one (ps_ret (pe_callTy (call_tuple_ofK K) (by rfl) T.tuple (by decide +kernel) (pa_cons (pe_can C_lots_of (hr.mono (by decide)) (pa_cons (pe_slice sl_str (pe_propF (pv 0) T.cl C_things (hr.mono (by decide))) (po_some pe_int) po_none) (pa_cons pe_int pa_nil))) pa_nil))))), ?_⟩
    refine ⟨_, rfl, t, l, rfl, hT, ?_⟩
    refine ⟨_, rfl, t, dx, fs, rfl, ht, t, dx, fs, _, rfl, ht, hf, 1, rfl, tx l, rfl, by rw [tx_length]; exact sz5 (by omega), ?_⟩
    rw [cut_from1]
    refine ⟨l.drop 1, rfl, by rw [List.length_drop]; omega, fun p H1 e1 np hp => ?_⟩
    refine ⟨p, _, rfl, .inl ⟨SqL.of hp, fun q nq => ?_⟩⟩
    exact k q _ (Ext.mut e1 (e1.fresh rfl nq)) (e1.fresh rfl nq) upd_same
/-! ### parts -/
def sp_parts (C : Addr) : Sp := fun vs H Q _ => ∃ (t : Addr) (l p : List Nat) (a b : Nat), vs = [.ref t, .str (tx p), .str (tx [a, b])] ∧ Tb C H t l ∧ l.length ≤ 7 ∧ p.length ≤ 7 ∧ isPartingM p l = true ∧ isPairM [a, b] l = true ∧ ∀ H', Sm H H' → Q (.bl (isPartedM p a b)) H'
theorem ok_parts (F : Fun K "parts" "parts" s_parts f fd) (T : Txt K mg C) (C_things : CTh P w K mg base C) (C_check_table : Can P w K mg base 1 "check_table" s_check_table ["table"] (sp_check_table C))
    (C_check_parting : Can P w K mg base 3 "check_parting" s_check_parting ["things", "parting"] sp_chkParting) (C_check_pair : Can P w K mg base 3 "check_pair" s_check_pair ["things", "pair"] sp_chkPair)
    (C_is_parted : Can P w K mg base 1 "is_parted" s_is_parted ["parting", "pair"] sp_is_parted) : FnOk P w K mg base CX0 4 f fd ["table", "parting", "pair"] (sp_parts C) := by
  refine F.ok sc_parts (fun vs H Q E h => ?_) (fun cdv A outer s H vs Q E hr h => ?_)
  · obtain ⟨_, _, _, _, _, rfl, _⟩ := h; rfl
  · obtain ⟨t, l, p, a, b, rfl, hT, h7, p7, hp, hq, k⟩ := h
    obtain ⟨dx, fs, ht, hf⟩ := id hT
    refine ⟨_, (pss_cons (ps_expr (pe_can C_check_table (hr.mono (by decide)) (pa_cons (pv 0) pa_nil)))
      (pss_cons (ps_expr (pe_can C_check_parting (hr.mono (by decide)) (pa_cons (pe_propF (pv 0) T.cl C_things (hr.mono (by decide))) (pa_cons (pv 1) pa_nil))))
      (pss_cons (ps_expr (pe_can C_check_pair (hr.mono (by decide)) (pa_cons (pe_propF (pv 0) T.cl C_things (hr.mono (by decide))) (pa_cons (pv 2) pa_nil))))
      (pss_one (ps_ret (pe_can C_is_parted (hr.mono (by decide)) (pa_cons (pv 1) (pa_cons (pv 2) pa_nil)))))))), ?_⟩
    refine ⟨_, rfl, t, l, rfl, hT, ?_⟩
    refine ⟨_, rfl, t, dx, fs, rfl, ht, t, dx, fs, _, rfl, ht, hf, _, rfl, l, p, rfl, by omega, by omega, hp, fun H1 e1 => ?_⟩
    have ht1 := Sm.at e1 ht
    refine ⟨_, rfl, t, dx, fs, rfl, ht1, t, dx, fs, _, rfl, ht1, hf, _, rfl, l, [a, b], rfl, by omega, by show 2 ≤ 1000; decide, hq, fun H2 e2 => ?_⟩
    exact ⟨_, rfl, _, rfl, p, a, b, rfl, k H2 (e1.trans e2)⟩
end
end K20
set_option Elab.async false
set_option linter.all false
set_option maxRecDepth 100000
set_option maxHeartbeats 4000000
namespace K20
open PySem PySem.Spec PyProof.Rows L2 Nf
section
/-! ### lists of texts, compared -/
def okL (l : List Nat) : Prop := ∀ c ∈ l, c < 0x110000
theorem okL.str {l : List Nat} (h : okL l) : PyData.canLay0 (.str (tx l)) = true := by
  show (tx l).cps.all (· < 0x110000) = true
  rw [← Array.all_toList, tx_toList]
  exact List.all_eq_true.mpr fun c hc => decide_eq_true (h c hc)
def dtx (ls : List (List Nat)) : List PyData := ls.map fun l => .str (tx l)
theorem eqv_tx : ∀ ls ms : List (List Nat), PyData.eqvAll (dtx ls) (dtx ms) = decide (ls = ms)
  | [], [] => by simp [dtx, PyData.eqvAll]
  | [], m :: ms => by simp [dtx, PyData.eqvAll]
  | l :: ls, [] => by simp [dtx, PyData.eqvAll]
  | l :: ls, m :: ms => by
    have ih := eqv_tx ls ms
    show PyData.eqvAll (.str (tx l) :: dtx ls) (.str (tx m) :: dtx ms) = _
    rw [PyData.eqvAll, ih, PyData.eqv]
    by_cases h : l = m
    · subst h; simp
    · have : tx l ≠ tx m := fun e => h (tx_inj e)
      simp [h, this]
theorem dpAll_tx {K : PySem.W.Frag} {H : Hp} : ∀ ls : List (List Nat), DpAll K H (vtx ls) (dtx ls)
  | [] => .nil
  | l :: ls => .cons (.str _) (dpAll_tx ls)
theorem shaped_tx {ls : List (List Nat)} (h : ∀ l ∈ ls, okL l) : SeqAt.shaped (.list (dtx ls)) = true := by
  have h1 : ∀ ls : List (List Nat), (∀ l ∈ ls, okL l) → PyData.canLayAll0 (dtx ls) = true ∧ PyData.depthAll (dtx ls) = 0 := by
    intro ls
    induction ls with
    | nil => intro _; exact ⟨rfl, rfl⟩
    | cons l ls ih =>
      intro h
      obtain ⟨a, b⟩ := ih fun x hx => h x (List.mem_cons_of_mem _ hx)
      constructor
      · show (PyData.canLay0 (.str (tx l)) && PyData.canLayAll0 (dtx ls)) = true
        rw [(h l List.mem_cons_self).str, a]; rfl
      · show max 0 (PyData.depthAll (dtx ls)) = 0
        rw [b]; rfl
  obtain ⟨a, b⟩ := h1 ls h
  unfold SeqAt.shaped
  have c : PyData.canLay0 (.list (dtx ls)) = true := a
  have d : PyData.depth (.list (dtx ls)) = 1 := by show PyData.depthAll (dtx ls) + 1 = 1; rw [b]
  rw [c, d]; rfl
variable {P : Program} {w : World} {K : PySem.W.Frag} {mg : Str → Option Value} {base : Heap} {C : Addr} {f : Addr} {fd : FuncData}
/-! ### partner, partners -/
def besideM (p four : List Nat) : List Nat := (four.drop 1).filter fun c => !isPartedM p (four.headD 0) c
def partnerM (p four : List Nat) : List Nat := if (besideM p four).length = 1 then besideM p four else []
def sp_partner : Sp := fun vs H Q _ => ∃ (p four : List Nat) (a : Addr), vs = [.str (tx p), .ref a] ∧ H a = some (.tup (vsg four)) ∧ four.length = 4 ∧ ∀ H', Sm H H' → Q (.str (tx (partnerM p four))) H'
theorem ok_partner (F : Fun K "partner" "partner" s_partner f fd) (T : Txt K mg C) (C_is_parted : Can P w K mg base 1 "is_parted" s_is_parted ["parting", "pair"] sp_is_parted) : FnOk P w K mg base CX0 2 f fd ["parting", "four"] sp_partner := by
  refine F.ok sc_partner (fun vs H Q E h => ?_) (fun cdv A outer s H vs Q E hr h => ?_)
  · obtain ⟨_, _, _, rfl, _⟩ := h; rfl
  · obtain ⟨p, four, a, rfl, ha, h4, k⟩ := h
    obtain ⟨x0, x1, x2, x3, rfl⟩ : ∃ x0 x1 x2 x3, four = [x0, x1, x2, x3] := by
      match four, h4 with
      | [x0, x1, x2, x3], _ => exact ⟨x0, x1, x2, x3, rfl⟩
    refine ⟨_, (pss_cons (ps_setLc (i := 2) (own := [("thing", 3)]) rfl sc_partner.nd rfl rfl (sw_true rfl rfl rfl (by decide +kernel)) (pi_tupK K (pe_slice (sl_tupK K) (pv 1) (po_some pe_int) po_none)) (blkOk_by (own := [("thing", 3)]) (N := N_partner) (sc := defScope s_partner) (by decide +kernel)) (fun _ _ _ _ _ => (pg_name (i := 3) sc_partner.nd rfl (Or.inl rfl) (Or.inr rfl))) (fun _ _ _ _ _ => (pts_one (pt_not (pt_val (pe_can C_is_parted (hr.mono (by decide)) (pa_cons (pv 0) (pa_cons (pe_op op_add_str (pe_ix (ix_tupK K) (pv 1) pe_int (fun _ _ => rfl)) (pv 3)) pa_nil))))))) (fun _ _ _ _ _ => (pv 3)))
      (pss_one (ps_ret (pe_ifExp (pt_cmpR op_eq (pe_callB (call_len_seqK K) (by rfl) T.len PySem.boot_len (pa_cons (pv 2) pa_nil)) pe_int (nomark _)) (pe_ix (ix_listK K) (pv 2) pe_int (fun _ _ => rfl)) pe_str)))), ?_⟩
    refine ⟨_, rfl, 1, rfl, a, _, rfl, SqT.of ha, by show ¬ (HT.sIx 4 0 (some 1) = 0 ∧ HT.sIx 4 4 none = 4); decide, fun S hS => ?_⟩
    have eS : cutV (vsg [x0, x1, x2, x3]) (some 1) none = vsg [x1, x2, x3] := rfl
    rw [eS]
    have hSa : S ≠ a := fun q => by rw [q] at hS; rw [ha] at hS; cases hS
    have ha1 : (upd H S (.tup (vsg [x1, x2, x3]))) a = some (.tup (vsg [x0, x1, x2, x3])) := by rw [upd_ne (Ne.symm hSa)]; exact ha
    refine ⟨S, rfl, ⟨_, SqT.of upd_same⟩, fun D hD => ?_⟩
    refine lcx (M := m0) (walk_tup (xs := vsg [x1, x2, x3])) hD (fun i L _ => L = vsg (([x1, x2, x3].take i).filter fun c => !isPartedM p x0 c)) rfl (fun H' e => SqT.of (Sm.at e upd_same)) ?_ ?_
    · rintro i x H1 H2 L hi e hl' hz rfl ⟨rfl, hx⟩
      have hx : (vsg [x1, x2, x3])[i]? = some x := hx
      obtain ⟨c, hc, rfl⟩ : ∃ c, [x1, x2, x3][i]? = some c ∧ x = V.str (tx [c]) := by
        rw [vsg, List.getElem?_map] at hx
        cases q : [x1, x2, x3][i]? with
        | none => rw [q] at hx; cases hx
        | some c => rw [q] at hx; exact ⟨c, rfl, (Option.some.inj hx).symm⟩
      have tk := take_snoc hc
      have hlen : (vsg (([x1, x2, x3].take i).filter fun c => !isPartedM p x0 c)).length ≤ 3 := by
        rw [vsg, List.length_map]
        refine Nat.le_trans (List.length_filter_le _ _) ?_
        rw [List.length_take]
        exact Nat.min_le_right _ _
      refine ⟨rfl, _, rfl, _, rfl, a, _, 0, .str (tx [x0]), rfl, rfl, SqT.of (Sm.at e ha1), rfl, _, rfl, tx [x0], tx [c], rfl, rfl, by rw [tx_length, tx_length]; exact sz5 (by show 2 ≤ 1000000; decide), p, x0, c, by rw [tx_append]; rfl, _, rfl, ?_⟩
      cases hm : isPartedM p x0 c with
      | true =>
        refine iteF (LW.skip hD (.m0 _) e hl' (.refl _ _) hz ?_)
        show _ = vsg (List.filter _ (List.take (i + 1) _))
        rw [tk, List.filter_append]
        simp [hm]
      | false =>
        refine iteT ⟨_, rfl, LW.add hD (.m0 _) e hl' (.refl _ _) (by rw [List.length_append, List.length_singleton]; omega) ?_⟩
        show _ = vsg (List.filter _ (List.take (i + 1) _))
        rw [tk, List.filter_append, vsg, vsg, List.map_append]
        simp [hm]
    · rintro L H1 e hl' rfl
      have e0 : H1 D = some (.lst (vsg (besideM p [x0, x1, x2, x3]))) := hl'
      have e1 : Sm H H1 := Ext.trans (.new hS) e
      have el : (vsg (besideM p [x0, x1, x2, x3])).length = (besideM p [x0, x1, x2, x3]).length := by rw [vsg, List.length_map]
      have kk := k H1 e1
      unfold partnerM at kk
      by_cases hb : (besideM p [x0, x1, x2, x3]).length = 1
      · rw [if_pos hb] at kk
        obtain ⟨b0, hb0⟩ : ∃ b0, besideM p [x0, x1, x2, x3] = [b0] := by
          match besideM p [x0, x1, x2, x3], hb with
          | [b0], _ => exact ⟨b0, rfl⟩
        refine ⟨_, rfl, D, _, rfl, .inl (SqL.of e0), rfl, true, congrArg V.bl (decide_eq_true ?_), iteT ?_⟩
        · rw [el, hb]; rfl
        · rw [hb0] at e0 kk
          exact ⟨_, rfl, D, _, 0, _, rfl, rfl, SqL.of e0, rfl, kk⟩
      · rw [if_neg hb] at kk
        refine ⟨_, rfl, D, _, rfl, .inl (SqL.of e0), rfl, false, congrArg V.bl (decide_eq_false ?_), iteF kk⟩
        intro q
        injection q with q
        rw [el] at q
        exact hb (by omega)
def sp_partners : Sp := fun vs H Q _ => ∃ (ps : List (List Nat)) (four : List Nat) (a3 a : Addr), vs = [.ref a3, .ref a] ∧ H a3 = some (.tup (vtx ps)) ∧ ps.length ≤ 60 ∧ H a = some (.tup (vsg four)) ∧ four.length = 4 ∧
  ∀ q H', Sm H H' → H q = none → H' q = some (.lst (vtx (srt (ps.map fun p => partnerM p four)))) → Q (.ref q) H'
theorem ok_partners (F : Fun K "partners" "partners" s_partners f fd) (T : Txt K mg C) (C_partner : Can P w K mg base 2 "partner" s_partner ["parting", "four"] sp_partner) : FnOk P w K mg base CX0 3 f fd ["three", "four"] sp_partners := by
  refine F.ok sc_partners (fun vs H Q E h => ?_) (fun cdv A outer s H vs Q E hr h => ?_)
  · obtain ⟨_, _, _, _, rfl, _⟩ := h; rfl
  · obtain ⟨ps, four, a3, a, rfl, h3, hp, ha, h4, k⟩ := h
    refine ⟨_, (pss_one (ps_ret (pe_callB (cr_sortedSK K) (by rfl) T.sorted (by decide +kernel) (pa_cons (pe_lc (own := [("parting", 2)]) rfl sc_partners.nd (pi_tupK K (pv 0)) (blkOk_by (own := [("parting", 2)]) (N := N_partners) (sc := defScope s_partners) (by decide +kernel)) (fun _ _ _ _ _ => (pg_name (i := 2) sc_partners.nd rfl (Or.inl rfl) (Or.inr rfl))) (fun _ _ _ _ _ => pts_nil) (fun _ _ _ _ _ => (pe_can C_partner (hr.mono (by decide)) (pa_cons (pv 2) (pa_cons (pv 1) pa_nil))))) pa_nil)))), ?_⟩
    refine ⟨_, rfl, a3, rfl, ⟨_, SqT.of h3⟩, fun D hD => ?_⟩
    refine lcx (M := m0) (walk_tup (xs := vtx ps)) hD (fun i L _ => L = vtx ((ps.take i).map fun p => partnerM p four)) rfl (fun H' e => SqT.of (Sm.at e h3)) ?_ ?_
    · rintro i x H1 H2 L hi e hl' hz rfl ⟨rfl, hx⟩
      have hx : (vtx ps)[i]? = some x := hx
      obtain ⟨p, hpi, rfl⟩ : ∃ p, ps[i]? = some p ∧ x = V.str (tx p) := by
        rw [vtx, List.getElem?_map] at hx
        cases q : ps[i]? with
        | none => rw [q] at hx; cases hx
        | some c => rw [q] at hx; exact ⟨c, rfl, (Option.some.inj hx).symm⟩
      refine ⟨rfl, yesT ⟨_, rfl, _, rfl, p, four, a, rfl, Sm.at e ha, h4, fun H3 e3 => ?_⟩⟩
      refine LW.add hD (.m0 _) e hl' e3 ?_ ?_
      · rw [List.length_append, List.length_singleton, vtx, List.length_map, List.length_map, List.length_take]; omega
      · show _ = vtx (List.map _ (List.take (i + 1) _))
        rw [take_snoc hpi, List.map_append, vtx, vtx, List.map_append]; rfl
    · rintro L H1 e hl' rfl
      have e0 : H1 D = some (.lst (((ps.map fun p => partnerM p four).map tx).map V.str)) := by
        rw [← vtx_eq, hl', show (vtx ps).length = ps.length by rw [vtx, List.length_map], List.take_length]
      refine ⟨D, (ps.map fun p => partnerM p four).map tx, rfl, SqL.of e0, by rw [List.length_map, List.length_map]; omega, fun ys q hq hs hn => ?_⟩
      rw [sorted_is hq hs]
      refine k q _ (Ext.mut e (e.fresh rfl hn)) (e.fresh rfl hn) ?_
      rw [upd_same, vtx_eq]
end
end K20
set_option Elab.async false
set_option linter.all false
set_option maxRecDepth 100000
set_option maxHeartbeats 4000000
namespace K20
open PySem PySem.Spec PyProof.Rows L2 Nf
section
variable {P : Program} {w : World} {K : PySem.W.Frag} {mg : Str → Option Value} {base : Heap} {C : Addr} {f : Addr} {fd : FuncData}
theorem vtx_get {ls : List (List Nat)} {i : Nat} {x : V} (h : (vtx ls)[i]? = some x) : ∃ l, ls[i]? = some l ∧ x = V.str (tx l) := by
  rw [vtx, List.getElem?_map] at h
  cases q : ls[i]? with
  | none => rw [q] at h; cases h
  | some c => rw [q] at h; exact ⟨c, rfl, (Option.some.inj h).symm⟩
theorem partnerM_ok {p four : List Nat} (h : okL four) : okL (partnerM p four) := by
  intro c hc
  unfold partnerM at hc
  split at hc
  · exact h c (List.mem_of_mem_drop (List.mem_filter.mp hc).1)
  · cases hc
/-! ### clash -/
def clashB (ps : List (List Nat)) (four : List Nat) : Bool := decide (srt (ps.map fun p => partnerM p four) = (four.drop 1).map fun c => [c])
def clashM (l : List Nat) (ps : List (List Nat)) : Bool := ((combIx 4 l).map (clashB ps)).any id
def sp_clash (C : Addr) : Sp := fun vs H Q _ => ∃ (t : Addr) (l p q r : List Nat), vs = [.ref t, .str (tx p), .str (tx q), .str (tx r)] ∧ Tb C H t l ∧ okL l ∧ l.length ≤ 7 ∧ p.length ≤ 7 ∧ q.length ≤ 7 ∧ r.length ≤ 7 ∧
  isPartingM p l = true ∧ isPartingM q l = true ∧ isPartingM r l = true ∧ ∀ H', Sm H H' → Q (.bl (clashM l [p, q, r])) H'
theorem combIx_sub : ∀ (r : Nat) (l ix : List Nat), ix ∈ combIx r l → ∀ c ∈ ix, c ∈ l := combIx_mem
theorem ok_clash (F : Fun K "clash" "clash" s_clash f fd) (T : Txt K mg C) (C_things : CTh P w K mg base C) (C_check_table : Can P w K mg base 1 "check_table" s_check_table ["table"] (sp_check_table C))
    (C_check_parting : Can P w K mg base 3 "check_parting" s_check_parting ["things", "parting"] sp_chkParting) (C_partners : Can P w K mg base 3 "partners" s_partners ["three", "four"] sp_partners) :
    FnOk P w K mg base CX0 4 f fd ["table", "parting", "other_parting", "third_parting"] (sp_clash C) := by
  refine F.ok sc_clash (fun vs H Q E h => ?_) (fun cdv A outer s H vs Q E hr h => ?_)
  · obtain ⟨_, _, _, _, _, rfl, _⟩ := h; rfl
  · obtain ⟨t, l, p, q, r, rfl, hT, hok, h7, p7, q7, r7, hp, hq, hr3, k⟩ := h
    obtain ⟨dx, fs, ht, hf⟩ := id hT
    have hu := hu_of hr
    refine ⟨_, (pss_cons (ps_expr (pe_can C_check_table (hr.mono (by decide)) (pa_cons (pv 0) pa_nil)))
      (pss_cons (ps_expr (pe_can C_check_parting (hr.mono (by decide)) (pa_cons (pe_propF (pv 0) T.cl C_things (hr.mono (by decide))) (pa_cons (pv 1) pa_nil))))
      (pss_cons (ps_expr (pe_can C_check_parting (hr.mono (by decide)) (pa_cons (pe_propF (pv 0) T.cl C_things (hr.mono (by decide))) (pa_cons (pv 2) pa_nil))))
      (pss_cons (ps_expr (pe_can C_check_parting (hr.mono (by decide)) (pa_cons (pe_propF (pv 0) T.cl C_things (hr.mono (by decide))) (pa_cons (pv 3) pa_nil))))
      (pss_cons (ps_set (i := 4) sc_clash.nd rfl (Or.inl rfl) (pe_propF (pv 0) T.cl C_things (hr.mono (by decide))))
      (pss_cons (ps_set (i := 5) sc_clash.nd rfl (Or.inr rfl) (pe_tup (pa_cons (pv 1) (pa_cons (pv 2) (pa_cons (pv 3) pa_nil)))))
      (pss_one (ps_ret (pe_callB (cr_anyK K rfl) (by rfl) T.any (by decide +kernel) (pa_cons (pe_lc (own := [("four", 6)]) rfl sc_clash.nd (pi_combK K rfl rfl T.combinations (pa_cons (pv 4) (pa_cons pe_int pa_nil))) (blkOk_by (own := [("four", 6)]) (N := N_clash) (sc := defScope s_clash) (by decide +kernel)) (fun _ _ _ _ _ => (pg_name (i := 6) sc_clash.nd rfl (Or.inl rfl) (Or.inr rfl))) (fun _ _ _ _ _ => pts_nil) (fun _ _ _ _ _ => (pe_cmpR (op_eqDK K hr.units) (pe_can C_partners (hr.mono (by decide)) (pa_cons (pv 5) (pa_cons (pv 6) pa_nil))) (pe_callTy (call_list_ofK K) (by rfl) T.list (by decide +kernel) (pa_cons (pe_slice (sl_tupK K) (pv 6) (po_some pe_int) po_none) pa_nil)) (nomark _)))) pa_nil)))))))))), ?_⟩
    refine ⟨_, rfl, t, l, rfl, hT, ?_⟩
    refine ⟨_, rfl, t, dx, fs, rfl, ht, t, dx, fs, _, rfl, ht, hf, _, rfl, l, p, rfl, by omega, by omega, hp, fun H1 e1 => ?_⟩
    have ht1 := Sm.at e1 ht
    refine ⟨_, rfl, t, dx, fs, rfl, ht1, t, dx, fs, _, rfl, ht1, hf, _, rfl, l, q, rfl, by omega, by omega, hq, fun H2 e2 => ?_⟩
    have ht2 := Sm.at e2 ht1
    refine ⟨_, rfl, t, dx, fs, rfl, ht2, t, dx, fs, _, rfl, ht2, hf, _, rfl, l, r, rfl, by omega, by omega, hr3, fun H3 e3 => ?_⟩
    have ht3 := Sm.at e3 ht2
    refine ⟨_, rfl, t, dx, fs, rfl, ht3, t, dx, fs, _, rfl, ht3, hf, ?_⟩
    refine ⟨_, rfl, _, rfl, _, rfl, sz5 (by show 3 ≤ 1000000; decide), fun a3 h3 => ?_⟩
    have et : Sm H (upd H3 a3 (.tup (vtx [p, q, r]))) := ((e1.trans e2).trans e3).trans (.new h3)
    refine ⟨_, rfl, _, 4, vsg l, combIx 4 (List.range l.length), rfl, by decide, src_tx (by omega), ?_, fun D hD => ?_⟩
    · rw [vsg, List.length_map]; exact chain7 h7 (by decide)
    refine lcx (M := m0) (walk_combT l 4) hD (fun i L _ => L = (((combIx 4 l).take i).map (clashB [p, q, r])).map V.bl) rfl (fun _ _ => trivial) ?_ ?_
    · rintro i x H4 H5 L hi e hl' hz rfl ⟨Tt, row, rfl, hTt, rfl, hrow, hlen⟩
      have h35 : (upd H4 Tt (.tup (vsg row))) a3 = some (.tup (vtx [p, q, r])) := Sm.at (e.trans (.new hTt)) upd_same
      refine ⟨rfl, yesT ?_⟩
      refine ⟨_, rfl, _, rfl, [p, q, r], row, a3, Tt, rfl, h35, by show 3 ≤ 60; decide, upd_same, hlen, fun q1 H6 e6 n6 h6 => ?_⟩
      have e46 : Sm H4 H6 := Ext.trans (.new hTt) e6
      obtain ⟨x0, x1, x2, x3, rfl⟩ : ∃ x0 x1 x2 x3, row = [x0, x1, x2, x3] := by
        match row, hlen with
        | [x0, x1, x2, x3], _ => exact ⟨x0, x1, x2, x3, rfl⟩
      have hT6 := Sm.at e6 (upd_same (H := H4) (a := Tt) (o := HO.tup (vsg [x0, x1, x2, x3])))
      have hrl : okL [x0, x1, x2, x3] := fun c hc => hok c (combIx_sub 4 l _ (List.mem_of_getElem? hrow) c hc)
      refine ⟨_, rfl, 1, rfl, Tt, _, rfl, SqT.of hT6, by show ¬ (HT.sIx 4 0 (some 1) = 0 ∧ HT.sIx 4 4 none = 4); decide, fun S hS => ?_⟩
      have eS : cutV (vsg [x0, x1, x2, x3]) (some 1) none = vsg [x1, x2, x3] := rfl
      rw [eS]
      refine ⟨S, _, rfl, .inr (SqT.of upd_same), fun L2 hL2 => ?_⟩
      have e67 : Sm H6 (upd (upd H6 S (.tup (vsg [x1, x2, x3]))) L2 (.lst (vsg [x1, x2, x3]))) := Ext.trans (.new hS) (.new hL2)
      have hq7 := Sm.at e67 h6
      have dl : (upd (upd H6 S (.tup (vsg [x1, x2, x3]))) L2 (.lst (vsg [x1, x2, x3]))) L2 = some (.lst (vtx [[x1], [x2], [x3]])) := upd_same
      refine ⟨.list (dtx (srt ([p, q, r].map fun p => partnerM p [x0, x1, x2, x3]))), .list (dtx [[x1], [x2], [x3]]), .lst (SqL.of hq7) (dpAll_tx _), .lst (SqL.of dl) (dpAll_tx _), shaped_tx ?_, shaped_tx ?_, ?_⟩
      · intro z hz
        have := (srt_perm _).mem_iff.mp hz
        obtain ⟨y, _, rfl⟩ := List.mem_map.mp this
        exact partnerM_ok hrl
      · intro z hz c hc
        refine hrl c ?_
        simp only [List.mem_cons, List.not_mem_nil, or_false] at hz
        rcases hz with rfl | rfl | rfl <;> simp at hc <;> simp [hc]
      · rw [PyData.eqv, eqv_tx]
        refine LW.add hD (.m0 _) e hl' (e46.trans e67) ?_ ?_
        · have := comb7 (r := 4) h7 (by decide)
          rw [List.length_append, List.length_singleton, List.length_map, List.length_map, List.length_take]; omega
        · show _ = (((combIx 4 l).take (i + 1)).map _).map _
          rw [take_snoc hrow, List.map_append, List.map_append]; rfl
    · rintro L H4 e hl' rfl
      rw [List.take_length] at hl'
      exact ⟨D, _, rfl, SqL.of hl', k _ (et.trans e)⟩
/-! ### cross -/
abbrev sc_cross1 : Scope := { kind := .function, names := [(".0", .local), ("lot", .local), ("others", .cell), ("any", .globalImplicit), ("other_lots", .cell)], isGenerator := false, isCoroutine := false }
def crossBs (lots others : List (List Nat)) : List Bool := lots.flatMap fun a => others.map fun b => a.any fun c => decide (c ∈ b)
def crossM (l p q : List Nat) : Bool := (crossBs [p, otherM l p] [q, otherM l q]).all id
def sp_cross (C : Addr) : Sp := fun vs H Q _ => ∃ (t : Addr) (l p q : List Nat), vs = [.ref t, .str (tx p), .str (tx q)] ∧ Tb C H t l ∧ l.length ≤ 7 ∧ p.length ≤ 7 ∧ q.length ≤ 7 ∧
  isPartingM p l = true ∧ isPartingM q l = true ∧ ∀ H', Sm H H' → Q (.bl (crossM l p q)) H'
theorem ok_cross (F : Fun K "cross" "cross" s_cross f fd) (T : Txt K mg C) (C_things : CTh P w K mg base C) (C_check_table : Can P w K mg base 1 "check_table" s_check_table ["table"] (sp_check_table C))
    (C_check_parting : Can P w K mg base 3 "check_parting" s_check_parting ["things", "parting"] sp_chkParting) (C_other_lot : Can P w K mg base 1 "other_lot" s_other_lot ["things", "parting"] sp_other_lot) :
    FnOk P w K mg base CX0 4 f fd ["table", "parting", "other_parting"] (sp_cross C) := by
  refine F.ok sc_cross (fun vs H Q E h => ?_) (fun cdv A outer s H vs Q E hr h => ?_)
  · obtain ⟨_, _, _, _, rfl, _⟩ := h; rfl
  · obtain ⟨t, l, p, q, rfl, hT, h7, p7, q7, hp, hq, k⟩ := h
    obtain ⟨dx, fs, ht, hf⟩ := id hT
    refine ⟨_, (pss_cons (ps_expr (pe_can C_check_table (hr.mono (by decide)) (pa_cons (pv 0) pa_nil)))
      (pss_cons (ps_expr (pe_can C_check_parting (hr.mono (by decide)) (pa_cons (pe_propF (pv 0) T.cl C_things (hr.mono (by decide))) (pa_cons (pv 1) pa_nil))))
      (pss_cons (ps_expr (pe_can C_check_parting (hr.mono (by decide)) (pa_cons (pe_propF (pv 0) T.cl C_things (hr.mono (by decide))) (pa_cons (pv 2) pa_nil))))
      (pss_cons (ps_set (i := 3) sc_cross.nd rfl (Or.inl rfl) (pe_tup (pa_cons (pv 1) (pa_cons (pe_can C_other_lot (hr.mono (by decide)) (pa_cons (pe_propF (pv 0) T.cl C_things (hr.mono (by decide))) (pa_cons (pv 1) pa_nil))) pa_nil))))
      (pss_cons (ps_set (i := 4) sc_cross.nd rfl (Or.inr rfl) (pe_tup (pa_cons (pv 2) (pa_cons (pe_can C_other_lot (hr.mono (by decide)) (pa_cons (pe_propF (pv 0) T.cl C_things (hr.mono (by decide))) (pa_cons (pv 2) pa_nil))) pa_nil))))
      (pss_one (ps_ret (pe_callB (cr_allK K rfl) (by rfl) T.all (by decide +kernel) (pa_cons (pe_lc2 (own := [("lot", 6), ("others", 7)]) (vs1 := [7]) rfl sc_cross.nd (pi_tupK K (pv 3)) (blkOk_by (own := [("lot", 6), ("others", 7)]) (N := N_cross) (sc := defScope s_cross) (by decide +kernel)) (by decide) (fun _ _ _ _ _ => (pg_name (i := 6) sc_cross.nd rfl (Or.inl rfl) (Or.inr rfl))) (fun _ _ _ _ _ => pts_nil) (fun _ _ _ _ _ => (pi_tupK K (pv 4))) (fun _ _ _ _ _ => (pg_name (i := 7) sc_cross.nd rfl (Or.inr rfl) (Or.inl rfl))) (fun _ _ _ _ _ => pts_nil) (fun _ _ _ _ _ => (pe_callB (cr_anyK K rfl) (by rfl) T.any (by decide +kernel) (pa_cons (pe_lc (own := [("thing", 5)]) rfl sc_cross.nd (pi_str (pv 6)) (blkOk_by (own := [("thing", 5)]) (N := N_cross) (sc := sc_cross1) (by decide +kernel)) (fun _ _ _ _ _ => (pg_name (i := 5) sc_cross.nd rfl (Or.inl rfl) (Or.inr rfl))) (fun _ _ _ _ _ => pts_nil) (fun _ _ _ _ _ => (pe_cmpR op_in_sign (pv 5) (pv 7) rfl))) pa_nil)))) pa_nil))))))))), ?_⟩
    refine ⟨_, rfl, t, l, rfl, hT, ?_⟩
    refine ⟨_, rfl, t, dx, fs, rfl, ht, t, dx, fs, _, rfl, ht, hf, _, rfl, l, p, rfl, by omega, by omega, hp, fun H1 e1 => ?_⟩
    have ht1 := Sm.at e1 ht
    refine ⟨_, rfl, t, dx, fs, rfl, ht1, t, dx, fs, _, rfl, ht1, hf, _, rfl, l, q, rfl, by omega, by omega, hq, fun H2 e2 => ?_⟩
    have ht2 := Sm.at e2 ht1
    refine ⟨_, rfl, _, rfl, t, dx, fs, rfl, ht2, t, dx, fs, _, rfl, ht2, hf, _, rfl, l, p, rfl, by omega, fun H3 e3 => ?_⟩
    refine ⟨sz5 (by show 2 ≤ 1000000; decide), fun a1 n1 => ?_⟩
    have ht3 := Sm.at (e3.trans (.new (o := .tup (vtx [p, otherM l p])) n1)) ht2
    refine ⟨_, rfl, _, rfl, t, dx, fs, rfl, ht3, t, dx, fs, _, rfl, ht3, hf, _, rfl, l, q, rfl, by omega, fun H4 e4 => ?_⟩
    refine ⟨sz5 (by show 2 ≤ 1000000; decide), fun a2 n2 => ?_⟩
    have h41 : H4 a1 = some (.tup (vtx [p, otherM l p])) := Sm.at e4 upd_same
    have h51 : (upd H4 a2 (.tup (vtx [q, otherM l q]))) a1 = some (.tup (vtx [p, otherM l p])) := Sm.at (.new n2) h41
    have h52 : (upd H4 a2 (.tup (vtx [q, otherM l q]))) a2 = some (.tup (vtx [q, otherM l q])) := upd_same
    have et : Sm H (upd H4 a2 (.tup (vtx [q, otherM l q]))) := ((((e1.trans e2).trans e3).trans (.new n1)).trans e4).trans (.new n2)
    refine ⟨_, rfl, a1, rfl, ⟨_, SqT.of h51⟩, fun D hD => ?_⟩
    refine lcx_out (M := m0) (walk_tup (xs := vtx [p, otherM l p])) hD (fun i L _ => L = (crossBs ([p, otherM l p].take i) [q, otherM l q]).map V.bl) rfl (fun H' e => SqT.of (Sm.at e h51)) ?_ ?_
    · rintro i x H5 H6 L hi e hl' hz rfl ⟨rfl, hx⟩
      obtain ⟨lot, hlot, rfl⟩ := vtx_get (ls := [p, otherM l p]) hx
      have hlotl : lot.length ≤ 7 := by
        have hm := List.mem_of_getElem? hlot
        simp only [List.mem_cons, List.not_mem_nil, or_false] at hm
        rcases hm with rfl | rfl
        · exact p7
        · exact Nat.le_trans (List.length_filter_le _ _) h7
      refine ⟨rfl, yesT ?_⟩
      refine ⟨_, rfl, a2, rfl, ⟨_, SqT.of (Sm.at e h52)⟩, ?_⟩
      have hcb : ∀ n m : Nat, n ≤ 2 → (crossBs ([p, otherM l p].take n) [q, otherM l q]).length ≤ 4 := by
        intro n _ hn
        match n, hn with
        | 0, _ => simp [crossBs]
        | 1, _ => simp [crossBs]
        | 2, _ => simp [crossBs]
      have hi2 : i < 2 := hi
      refine lcx_in (M := m0) (H1 := upd H4 a2 (.tup (vtx [q, otherM l q]))) (D := D) (walk_tup (xs := vtx [q, otherM l q])) (fun j L _ => L = (crossBs ([p, otherM l p].take i) [q, otherM l q] ++ ([q, otherM l q].take j).map fun b => lot.any fun c => decide (c ∈ b)).map V.bl) ⟨e, _, hl', hz, by show _ = List.map _ (_ ++ List.map _ (List.take 0 _)); rw [List.take_zero, List.map_nil, List.append_nil]⟩ (fun j H' _ p' => SqT.of (Sm.at p'.1 h52)) ?_ ?_
      · rintro j y H7 H8 L2 hj e2 hl2 hz2 rfl ⟨rfl, hy⟩
        obtain ⟨oth, hoth, rfl⟩ := vtx_get (ls := [q, otherM l q]) hy
        refine ⟨rfl, yesT ?_⟩
        refine ⟨_, rfl, tx lot, rfl, fun D2 hD2 => ?_⟩
        refine lcx (M := m0) (walk_tx lot) hD2 (fun n L _ => L = ((lot.take n).map fun c => decide (c ∈ oth)).map V.bl) rfl (fun _ _ => trivial) ?_ ?_
        · rintro n z H9 H10 L3 hn e3 hl3 hz3 rfl ⟨rfl, c, hc, rfl⟩
          refine ⟨rfl, yesT ⟨_, rfl, _, rfl, c, tx oth, rfl, rfl, ?_⟩⟩
          rw [tx_toList]
          refine LW.add hD2 (.m0 _) e3 hl3 (.refl _ _) ?_ ?_
          · rw [List.length_append, List.length_singleton, List.length_map, List.length_map, List.length_take]; omega
          · show _ = List.map _ (List.map _ (List.take (n + 1) _))
            rw [take_snoc hc, List.map_append, List.map_append]; rfl
        · rintro L3 H9 e3 hl3 rfl
          rw [List.take_length] at hl3
          refine ⟨D2, _, rfl, SqL.of hl3, ?_⟩
          have hD2' : H8 D2 = none := hD2
          refine LW.add hD (.m0 _) e2 hl2 e3 ?_ ?_
          · have h1 := hcb i 0 (by omega)
            have h2 : (([q, otherM l q].take j).map fun b => lot.any fun c => decide (c ∈ b)).length ≤ 2 := by rw [List.length_map, List.length_take]; exact Nat.min_le_right _ _
            rw [List.length_append, List.length_singleton, List.length_map, List.length_append]; omega
          · show _ = List.map _ (_ ++ List.map _ (List.take (j + 1) _))
            rw [take_snoc hoth, List.map_append, List.map_append, List.map_append, List.append_assoc]
            simp [List.any_map]
      · rintro H7 ⟨e3, L3, hl3, hz3, rfl⟩
        refine ⟨e3, _, hl3, hz3, ?_⟩
        show _ = List.map _ (crossBs (List.take (i + 1) _) _)
        rw [take_snoc hlot, show (vtx [q, otherM l q]).length = 2 from rfl]
        unfold crossBs
        rw [List.flatMap_append]
        simp
    · rintro L H5 e hl' rfl
      refine ⟨D, _, rfl, SqL.of hl', k _ (et.trans e)⟩
end
end K20
set_option Elab.async false
set_option linter.all false
set_option maxRecDepth 100000
set_option maxHeartbeats 4000000
namespace K20
open PySem PySem.Spec PyProof.Rows L2 Nf
section
/-! ### the urn: a place that moves -/
def goodU (o : HO) : Prop := ∃ a b : Int, o = .lst [.int a, .int b] ∧ 0 ≤ a ∧ 0 ≤ b
def mU (u : Addr) : Mv := fun a => if a = u then some goodU else none
theorem mU_ne {u a : Addr} (h : a ≠ u) : mU u a = none := if_neg h
theorem mU_at {u : Addr} : mU u u = some goodU := if_pos rfl
def UrnO (H : Hp) (u : Addr) : Prop := ∃ o, H u = some o ∧ goodU o
theorem UrnO.live {H : Hp} {u : Addr} (h : UrnO H u) : Live (mU u) H := fun a g q => by
  unfold mU at q
  split at q
  · rename_i e
    subst e
    cases q
    exact h
  · cases q
theorem UrnO.ext {H H' : Hp} {u : Addr} (h : UrnO H u) (e : Ext (mU u) H H') : UrnO H' u := by
  obtain ⟨o, ho, g⟩ := h
  exact e.live mU_at ho g
theorem UrnO.ne {H : Hp} {u p : Addr} (h : UrnO H u) (n : H p = none) : p ≠ u := fun q => by
  obtain ⟨o, ho, _⟩ := h
  rw [q, ho] at n; cases n
theorem Ext.mutU {H H' : Hp} {u : Addr} {o : HO} (e : Ext (mU u) H H') (g : goodU o) : Ext (mU u) H (upd H' u o) := fun a => by
  by_cases h : a = u
  · subst h
    rw [mU_at]
    exact fun _ _ _ => ⟨o, upd_same, g⟩
  · rw [mU_ne h]
    intro o' ho
    rw [upd_ne h]
    exact e.at (mU_ne h) ho
variable {P : Program} {w : World} {K : PySem.W.Frag} {mg : Str → Option Value} {base : Heap} {C : Addr} {f : Addr} {fd : FuncData}
/-! ### urn -/
def sp_urn (K : PySem.W.Frag) : Sp := fun vs H Q _ => ∃ (a : Addr) (ns : List Int) (t : Nat), vs = [.ref a, .int t] ∧ SqL K H a (ns.map V.int) ∧ ns.length ≤ 1000000 ∧ ∀ p H', Sm H H' → H p = none → UrnO H' p → Q (.ref p) H'
theorem ok_urn (F : Fun K "_law_urn" "_law_urn" s_law_urn f fd) (T : Txt K mg C) : FnOk P w K mg base CX0 1 f fd ["_law_cells", "_law_turn"] (sp_urn K) := by
  refine F.ok sc_law_urn (fun vs H Q E h => ?_) (fun cdv A outer s H vs Q E hr h => ?_)
  · obtain ⟨_, _, _, rfl, _⟩ := h; rfl
  · obtain ⟨a, ns, t, rfl, ha, hn, k⟩ := h
    refine ⟨_, (pss_cons (ps_set (i := 2) sc_law_urn.nd rfl (Or.inl rfl) (pe_op op_add pe_int (pe_op op_mul pe_int (pv 1))))
      (pss_cons (ps_for PassesOwn.never rfl (pi_range1 (by rfl) T.range (pa_cons (pe_callB (call_min2 rfl) (by rfl) T.min (by decide +kernel) (pa_cons (pe_callB (call_len_seqK K) (by rfl) T.len PySem.boot_len (pa_cons (pv 0) pa_nil)) (pa_cons pe_int pa_nil))) pa_nil)) (pg_name (i := 3) sc_law_urn.nd rfl (Or.inl rfl) (Or.inr rfl))
      (pss_one (ps_set (i := 2) sc_law_urn.nd rfl (Or.inl rfl) (pe_op op_mod (pe_callTy call_int1 (by rfl) T.int (by decide +kernel) (pa_cons (pe_op op_add (pe_op op_add (pe_op op_mul (pv 2) pe_int) (pe_op op_mul (pe_op op_add (pv 3) pe_int) (pe_ix (ix_listK K) (pv 0) (pv 3) (fun _ _ => rfl)))) pe_int) pa_nil)) pe_int))))
      (pss_cons (ps_set (i := 4) sc_law_urn.nd rfl (Or.inl rfl) (pe_ifExp (pt_cmpR op_lt (pv 1) (pe_callB (call_len_seqK K) (by rfl) T.len PySem.boot_len (pa_cons (pv 0) pa_nil)) (nomark _)) (pe_callB call_abs (by rfl) T.abs (by decide +kernel) (pa_cons (pe_ix (ix_listK K) (pv 0) (pv 1) (fun _ _ => rfl)) pa_nil)) pe_int))
      (pss_one (ps_ret (pe_lst (pa_cons (pe_op op_add pe_int (pv 2)) (pa_cons (pe_ifExp (pt_cmpR op_ge (pv 4) (pe_op op_pow pe_int pe_int) (nomark _)) (pv 4) pe_int) pa_nil)))))))), ?_⟩
    refine ⟨_, rfl, _, _, rfl, rfl, .inl ⟨by decide, by decide⟩, _, _, rfl, rfl, ?_⟩
    refine ⟨_, rfl, a, _, rfl, .inl ha, _, _, rfl, ?_⟩
    have el : (ns.map V.int).length = ns.length := List.length_map _
    obtain ⟨m, hm, hm2, em⟩ : ∃ m : Nat, m ≤ ns.length ∧ m ≤ 24 ∧ (if (24 : Int) < ((ns.map V.int).length : Int) then (24 : Int) else ((ns.map V.int).length : Int)) = (m : Int) := by
      rw [el]
      split
      · exact ⟨24, by omega, by decide, rfl⟩
      · exact ⟨ns.length, Nat.le_refl _, by omega, rfl⟩
    rw [em]
    refine ⟨_, rfl, by omega, by omega, ?_⟩
    refine for_it walk_range (fun i σ H' => H' = H ∧ ∃ (z : Int) (y : Option V), 0 ≤ z ∧ σ = [some (.ref a), some (.int t), some (.int z), y, none]) ⟨rfl, _, _, ?_, rfl⟩ (fun _ _ _ _ _ => trivial) ?_ ?_
    · have : (0 : Int) ≤ t := by omega
      omega
    · rintro i x σ H2 H3 hi ⟨rfl, z, y, hz, rfl⟩ ⟨rfl, hx⟩
      have hx : x = V.int (0 + (i : Nat)) := hx
      have hi : i < (m : Int).toNat := hi
      have him : i < m := by omega
      have hiv : (ns.map V.int)[i]? = some (V.int (ns[i]'(by omega))) := by rw [List.getElem?_map, List.getElem?_eq_getElem (by omega)]; rfl
      subst hx
      refine ⟨_, rfl, _, _, rfl, rfl, .inr ⟨by decide, by decide⟩, ?_⟩
      refine ⟨_, rfl, _, _, rfl, rfl, _, rfl, _, rfl, a, _, _, _, rfl, rfl, ha, by rw [Int.zero_add]; exact atI_nat hiv, _, _, rfl, rfl, .inl ⟨by omega, by omega⟩, ?_⟩
      refine ⟨_, _, rfl, rfl, _, _, rfl, rfl, .inl ⟨_, rfl, _, _, rfl, rfl, (show (0 : Int) < 2147483629 by decide), ?_⟩⟩
      exact ⟨rfl, _, _, Int.emod_nonneg _ (by decide), rfl⟩
    · rintro σ H2 ⟨rfl, z, y, hz, rfl⟩
      have fin : ∀ d : Int, 0 ≤ d → ∀ q : Int, (q = d ∨ q = 0) → ∀ p, H2 p = none → Q (.ref p) (upd H2 p (.lst [.int (1 + z), .int q])) := fun d hd q hq p hp => k p _ (.new hp) hp ⟨_, upd_same, _, _, rfl, by omega, by omega⟩
      have two : [V.int (1 + z), V.int 0].length ≤ sizeLine := sz5 (by show 2 ≤ 1000000; decide)
      by_cases ht : t < ns.length
      · have hv : (ns.map V.int)[t]? = some (V.int (ns[t]'ht)) := by rw [List.getElem?_map, List.getElem?_eq_getElem ht]; rfl
        refine ⟨_, rfl, _, rfl, a, _, rfl, .inl ha, _, _, rfl, rfl, true, congrArg V.bl (decide_eq_true (by rw [el]; omega)), iteT ⟨_, rfl, _, rfl, a, _, _, _, rfl, rfl, ha, atI_nat hv, _, rfl, ?_⟩⟩
        have hd : (0 : Int) ≤ if ns[t] < 0 then -ns[t] else ns[t] := by split <;> omega
        revert hd
        generalize (if ns[t] < 0 then -ns[t] else ns[t]) = d
        intro hd
        refine ⟨_, rfl, _, _, rfl, rfl, _, rfl, _, _, rfl, rfl, ⟨by decide, by decide, by decide⟩, _, _, rfl, rfl, _, rfl, ?_⟩
        cases decide ((10 : Int) ^ (17 : Int).toNat ≤ d) with
        | true => exact iteT ⟨_, rfl, two, fin d hd d (.inl rfl)⟩
        | false => exact iteF ⟨two, fin d hd 0 (.inr rfl)⟩
      · refine ⟨_, rfl, _, rfl, a, _, rfl, .inl ha, _, _, rfl, rfl, false, congrArg V.bl (decide_eq_false (by rw [el]; omega)), iteF ?_⟩
        refine ⟨_, rfl, _, _, rfl, rfl, _, rfl, _, _, rfl, rfl, ⟨by decide, by decide, by decide⟩, _, _, rfl, rfl, _, rfl, ?_⟩
        cases decide ((10 : Int) ^ (17 : Int).toNat ≤ 0) with
        | true => exact iteT ⟨_, rfl, two, fin 0 (by decide) 0 (.inl rfl)⟩
        | false => exact iteF ⟨two, fin 0 (by decide) 0 (.inr rfl)⟩
/-! ### cast, pick -/
def sp_cast : Sp := fun vs H Q _ => ∃ (u : Addr) (n : Nat), vs = [.ref u, .int n] ∧ UrnO H u ∧ 0 < n ∧ n ≤ 1000000 ∧ ∀ (v : Nat) H', Ext (mU u) H H' → v < n → Q (.int v) H'
theorem ok_cast (F : Fun K "_law_cast" "_law_cast" s_law_cast f fd) (T : Txt K mg C) : FnOk P w K mg base CX0 1 f fd ["_law_urn_here", "_law_size"] sp_cast := by
  refine F.ok sc_law_cast (fun vs H Q E h => ?_) (fun cdv A outer s H vs Q E hr h => ?_)
  · obtain ⟨_, _, rfl, _⟩ := h; rfl
  · obtain ⟨u, n, rfl, hU, h0, h1, k⟩ := h
    obtain ⟨o, ho, a, b, rfl, ha, hb⟩ := id hU
    have nn : ∀ x : Int, ∃ v : Nat, v < n ∧ x % (n : Int) = v := fun x => by
      have q1 := Int.emod_nonneg x (show (n : Int) ≠ 0 by omega)
      have q2 := Int.emod_lt_of_pos x (show (0 : Int) < n by omega)
      exact ⟨(x % (n : Int)).toNat, by omega, by omega⟩
    refine ⟨_, (pss_cons (ps_if (pt_cmpR op_gt (pe_ix (ix_listK K) (pv 0) pe_int (fun _ _ => rfl)) pe_int (nomark _)) (pss_cons (ps_asg (pe_callB call_divmod (by rfl) T.divmod (by decide +kernel) (pa_cons (pe_ix (ix_listK K) (pv 0) pe_int (fun _ _ => rfl)) (pa_cons (pv 1) pa_nil))) (pg_tup2K K rfl (pgs_cons (pg_sub (pv 0) pe_int set_list) (pgs_cons (pg_name (i := 2) sc_law_cast.nd rfl (Or.inl rfl) (Or.inr rfl)) pgs_nil))))
      (pss_one (ps_ret (pv 2)))) pss_nil)
      (pss_cons (ps_asg (pe_op op_mod (pe_callTy call_int1 (by rfl) T.int (by decide +kernel) (pa_cons (pe_op op_add (pe_op op_mul (pe_ix (ix_listK K) (pv 0) pe_int (fun _ _ => rfl)) pe_int) pe_int) pa_nil)) pe_int) (pg_sub (pv 0) pe_int set_list))
      (pss_one (ps_ret (pe_op op_mod (pe_callTy call_int1 (by rfl) T.int (by decide +kernel) (pa_cons (pe_op op_fdiv (pe_ix (ix_listK K) (pv 0) pe_int (fun _ _ => rfl)) pe_int) pa_nil)) (pv 1)))))), ?_⟩
    by_cases hpos : 0 < b
    · refine ⟨_, rfl, u, _, 1, _, rfl, rfl, SqL.of ho, rfl, _, _, rfl, rfl, true, congrArg V.bl (decide_eq_true hpos), iteT ?_⟩
      refine ⟨_, rfl, u, _, 1, _, rfl, rfl, SqL.of ho, rfl, _, rfl, _, _, rfl, ⟨by omega, by omega⟩, fun p hp => ?_⟩
      have hne : u ≠ p := fun q => hU.ne hp q.symm
      have ho1 : (upd H p (.tup [.int (b / n), .int (b % n)])) u = some (.lst [.int a, .int b]) := by rw [upd_ne hne]; exact ho
      obtain ⟨v, hv, ev⟩ := nn b
      refine ⟨p, _, rfl, SqT.of upd_same, rfl, _, _, rfl, _, rfl, u, _, 1, 1, rfl, rfl, ho1, rfl, _, _, rfl, rfl, ?_⟩
      refine ⟨_, rfl, ?_⟩
      rw [ev]
      refine k v _ (Ext.mutU (.new hp) ⟨a, b / n, rfl, ha, Int.ediv_nonneg hb (by omega)⟩) hv
    · refine ⟨_, rfl, u, _, 1, _, rfl, rfl, SqL.of ho, rfl, _, _, rfl, rfl, false, congrArg V.bl (decide_eq_false hpos), iteF ?_⟩
      refine ⟨_, rfl, u, _, 0, _, rfl, rfl, SqL.of ho, rfl, _, _, rfl, rfl, .inr ⟨by decide, by decide⟩, _, _, rfl, rfl, .inl ⟨_, rfl, _, _, rfl, rfl, (show (0 : Int) < 2147483647 by decide), ?_⟩⟩
      refine ⟨_, rfl, u, _, 0, 0, rfl, rfl, ho, rfl, ?_⟩
      refine ⟨_, rfl, u, _, 0, _, rfl, rfl, SqL.of upd_same, rfl, _, _, rfl, rfl, ⟨by decide, by decide⟩, .inl ⟨_, rfl, _, rfl, _, _, rfl, rfl, (show (0 : Int) < n by omega), ?_⟩⟩
      obtain ⟨v, hv, ev⟩ := nn ((a * 16807 + 12345) % 2147483647 / 4099)
      show Q (.int ((a * 16807 + 12345) % 2147483647 / 4099 % n)) _
      rw [ev]
      exact k v _ (Ext.mutU (.refl _ _) ⟨_, b, rfl, Int.emod_nonneg _ (by decide), hb⟩) hv
def sp_pick (K : PySem.W.Frag) : Sp := fun vs H Q _ => ∃ (u a : Addr) (xs : List V), vs = [.ref u, .ref a] ∧ UrnO H u ∧ 0 < xs.length ∧ xs.length ≤ 1000000 ∧ H a = some (.lst xs) ∧ a ≠ u ∧ ∀ (x : V) H', Ext (mU u) H H' → x ∈ xs → Q x H'
theorem ok_pick (F : Fun K "_law_pick" "_law_pick" s_law_pick f fd) (T : Txt K mg C) (C__law_cast : Can P w K mg base 1 "_law_cast" s_law_cast ["_law_urn_here", "_law_size"] sp_cast) : FnOk P w K mg base CX0 2 f fd ["_law_urn_here", "_law_items"] (sp_pick K) := by
  refine F.ok sc_law_pick (fun vs H Q E h => ?_) (fun cdv A outer s H vs Q E hr h => ?_)
  · obtain ⟨_, _, _, rfl, _⟩ := h; rfl
  · obtain ⟨u, a, xs, rfl, hU, h0, h1, ha, hne, k⟩ := h
    refine ⟨_, (pss_one (ps_ret (pe_ix (ix_listK K) (pv 1) (pe_can C__law_cast (hr.mono (by decide)) (pa_cons (pv 0) (pa_cons (pe_callB (call_len_seqK K) (by rfl) T.len PySem.boot_len (pa_cons (pv 1) pa_nil)) pa_nil))) (fun _ _ => rfl)))), ?_⟩
    refine ⟨_, rfl, _, rfl, _, rfl, a, _, rfl, .inl (SqL.of ha), u, xs.length, rfl, hU, h0, h1, fun v H' e hv => ?_⟩
    exact ⟨a, _, _, _, rfl, rfl, SqL.of (e.at (mU_ne hne) ha), atI_nat (List.getElem?_eq_getElem hv), k _ H' e (List.getElem_mem hv)⟩
end
end K20
set_option Elab.async false
set_option linter.all false
set_option maxRecDepth 100000
set_option maxHeartbeats 4000000
namespace K20
open PySem PySem.Spec PyProof.Rows L2 Nf
section
theorem erase_perm : ∀ (l : List Nat) (i : Nat) (h : i < l.length), (l[i] :: l.eraseIdx i).Perm l
  | a :: l, 0, _ => List.Perm.refl _
  | a :: l, i + 1, h => (List.Perm.swap _ _ _).trans ((erase_perm l i (Nat.lt_of_succ_lt_succ h)).cons a)
theorem vsg_erase : ∀ (l : List Nat) (i : Nat), (vsg l).eraseIdx i = vsg (l.eraseIdx i)
  | [], _ => rfl
  | a :: l, 0 => rfl
  | a :: l, i + 1 => by
    show V.str (tx [a]) :: (vsg l).eraseIdx i = V.str (tx [a]) :: vsg (l.eraseIdx i)
    rw [vsg_erase l i]
theorem seq_nat {k n : Nat} (h : k < n) : seqIndex? (k : Int) n = some k := by
  unfold seqIndex?
  have h1 : ¬ ((k : Int) < 0) := by omega
  simp only [h1, if_false]
  have h2 : (0 : Int) ≤ k := by omega
  have h3 : (k : Int) < n := by omega
  simp [h2, h3]
theorem Ext.mutM {M : Mv} {H1 H H' : Hp} {p : Addr} {o : HO} (e : Ext M H1 H') (h : H1 p = none) : Ext M H1 (upd H' p o) := e.mut h
variable {P : Program} {w : World} {K : PySem.W.Frag} {mg : Str → Option Value} {base : Heap} {C : Addr} {f : Addr} {fd : FuncData}
/-! ### shuffled -/
def sp_shuffled : Sp := fun vs H Q _ => ∃ (u : Addr) (l : List Nat), vs = [.ref u, .str (tx l)] ∧ UrnO H u ∧ l.length ≤ 1000 ∧ ∀ (p : Addr) H' row, Ext (mU u) H H' → H p = none → H' p = some (.lst (vsg row)) → row.Perm l → Q (.ref p) H'
theorem ok_shuffled (F : Fun K "_law_shuffled" "_law_shuffled" s_law_shuffled f fd) (T : Txt K mg C) (C__law_cast : Can P w K mg base 1 "_law_cast" s_law_cast ["_law_urn_here", "_law_size"] sp_cast) : FnOk P w K mg base CX0 2 f fd ["_law_urn_here", "_law_items"] sp_shuffled := by
  refine F.ok sc_law_shuffled (fun vs H Q E h => ?_) (fun cdv A outer s H vs Q E hr h => ?_)
  · obtain ⟨_, _, rfl, _⟩ := h; rfl
  · obtain ⟨u, l, rfl, hU, hl, k⟩ := h
    have ez : (tx l).length = l.length := tx_length l
    refine ⟨_, (pss_cons (ps_par (i := 2) (j := 3) (by rfl) sc_law_shuffled.nd rfl rfl (by decide) rfl rfl (pa_cons (pe_callTy (call_list_tx rfl) (by rfl) T.list (by decide +kernel) (pa_cons (pv 1) pa_nil)) (pa_cons (pe_lst pa_nil) pa_nil)) (by rfl))
      (pss_cons (ps_for PassesOwn.never rfl (pi_range1 (by rfl) T.range (pa_cons (pe_callB call_len_str (by rfl) T.len PySem.boot_len (pa_cons (pv 1) pa_nil)) pa_nil)) (pg_name (i := 4) sc_law_shuffled.nd rfl (Or.inl rfl) (Or.inr rfl))
      (pss_one (ps_expr (pe_atK K (pe_bm PySem.F.plainAttrs_list PySem.F.slot_list_append PySem.F.type_list_append mt_append (pv 3) (pa_cons (pe_atK K (pe_bm PySem.F.plainAttrs_list PySem.F.slot_list_pop PySem.F.type_list_pop mt_popAt (pv 2) (pa_cons (pe_can C__law_cast (hr.mono (by decide)) (pa_cons (pv 0) (pa_cons (pe_callB (call_len_seqK K) (by rfl) T.len PySem.boot_len (pa_cons (pv 2) pa_nil)) pa_nil))) pa_nil))) pa_nil))))))
      (pss_one (ps_ret (pv 3))))), ?_⟩
    refine ⟨_, rfl, l, rfl, hl, fun D hD => ?_⟩
    refine ⟨sz5 (by show 0 ≤ 1000000; decide), fun R hR => ?_⟩
    have hRD : R ≠ D := fun q => by rw [q, upd_same] at hR; cases hR
    have hR0 : H R = none := by rw [upd_ne hRD] at hR; exact hR
    have hDu := hU.ne hD
    have hRu := hU.ne hR0
    refine ⟨_, _, rfl, ?_⟩
    refine ⟨_, rfl, tx l, rfl, by rw [ez]; exact sz5 (by omega), _, rfl, by omega, by rw [ez]; omega, ?_⟩
    have en : ((tx l).length : Int).toNat = l.length := by rw [ez]; omega
    rw [en]
    refine for_it walk_range (fun i σ H' => Ext (mU u) H H' ∧ ∃ (pool row : List Nat) (y : Option V), H' D = some (.lst (vsg pool)) ∧ H' R = some (.lst (vsg row)) ∧ (row ++ pool).Perm l ∧ row.length = i ∧ σ = [some (.ref u), some (.str (tx l)), some (.ref D), some (.ref R), y])
      ⟨(Ext.new hD).trans (.new hR), l, [], none, by rw [upd_ne (Ne.symm hRD)]; exact upd_same, upd_same, List.Perm.refl _, rfl, rfl⟩ (fun _ _ _ _ _ => trivial) ?_ ?_
    · rintro i x σ H2 H3 hi ⟨e, pool, row, y, hd, hrw, hp, hri, rfl⟩ ⟨rfl, hx⟩
      have hpl : pool.length = l.length - i := by
        have := hp.length_eq
        rw [List.length_append] at this
        omega
      have hU3 := hU.ext e
      refine ⟨_, rfl, .inl ⟨rfl, _, SqL.of hrw⟩, ?_⟩
      refine ⟨_, rfl, .inl ⟨rfl, _, SqL.of hd⟩, ?_⟩
      refine ⟨_, rfl, _, rfl, D, _, rfl, .inl (SqL.of hd), u, pool.length, by rw [vsg, List.length_map]; rfl, hU3, by omega, by omega, fun v H4 e4 hv => ?_⟩
      have hd4 := e4.at (mU_ne hDu) hd
      have hr4 := e4.at (mU_ne hRu) hrw
      refine ⟨D, vsg pool, (v : Int), v, .str (tx [pool[v]]), rfl, rfl, hd4, by omega, by omega, ?_, ?_, ?_⟩
      · rw [vsg, List.length_map]; exact seq_nat hv
      · rw [vsg, List.getElem?_map, List.getElem?_eq_getElem hv]; rfl
      rw [vsg_erase]
      refine ⟨R, vsg row, _, rfl, rfl, by rw [upd_ne hRD]; exact hr4, ?_, ?_⟩
      · rw [vsg, List.length_map, hri, sizeLine_eq]; omega
      refine ⟨Ext.mut (Ext.mut (e.trans e4) hD) hR0, pool.eraseIdx v, row ++ [pool[v]], _, ?_, ?_, ?_, by rw [List.length_append, List.length_singleton, hri], rfl⟩
      · rw [upd_ne (Ne.symm hRD)]; exact upd_same
      · rw [upd_same, vsg, vsg, List.map_append]; rfl
      · rw [List.append_assoc]
        exact ((erase_perm pool v hv).append_left row).trans hp
    · rintro σ H2 ⟨e, pool, row, y, hd, hrw, hp, hri, rfl⟩
      have hpl : pool = [] := by
        have := hp.length_eq
        rw [List.length_append] at this
        exact List.eq_nil_of_length_eq_zero (by omega)
      subst hpl
      rw [List.append_nil] at hp
      exact ⟨_, rfl, k R H2 row e hR0 hrw hp⟩
/-! ### names -/
theorem letters_pre : ((List.range 8).all fun m => isLotM (lettersL.take m) lettersL && decide ((lettersL.take m).length = m)) = true := by decide +kernel
theorem letters_rise : lettersL.Pairwise (· < ·) := by decide +kernel
theorem lot_of {row : List Nat} (hn : row.Nodup) (hs : ∀ c ∈ row, c ∈ lettersL) : (srt (row.map fun c => [c])).flatten = lettersL.filter (fun c => decide (c ∈ row)) ∧ isLotM (lettersL.filter fun c => decide (c ∈ row)) lettersL = true ∧ (lettersL.filter fun c => decide (c ∈ row)).length = row.length := by
  have ln : lettersL.Nodup := letters_rise.imp fun h => Nat.ne_of_lt h
  have hp : (lettersL.filter fun c => decide (c ∈ row)).Perm row := by
    refine (List.perm_ext_iff_of_nodup (List.filter_sublist.nodup ln) hn).mpr fun a => ?_
    rw [List.mem_filter, decide_eq_true_iff]
    exact ⟨fun h => h.2, fun h => ⟨hs a h, h⟩⟩
  have e : (lettersL.filter fun c => decide (c ∈ row)).map (fun c => [c]) = srt (row.map fun c => [c]) := by
    refine srt_unique (hp.map _) (List.pairwise_map.mpr ((letters_rise.sublist List.filter_sublist).imp fun {a b} h => ?_))
    unfold leB
    simp [ltCps]
    omega
  refine ⟨by rw [← e, flat1], ?_, hp.length_eq⟩
  unfold isLotM
  refine decide_eq_true (List.filter_congr fun c hc => ?_)
  exact decide_eq_decide.mpr ⟨fun h => List.mem_filter.mpr ⟨hc, decide_eq_true h⟩, fun h => of_decide_eq_true (List.mem_filter.mp h).2⟩
def Nm (l : List Nat) (a b : Nat) : Prop := isLotM l lettersL = true ∧ a ≤ l.length ∧ l.length ≤ b
def sp_names : Sp := fun vs H Q _ => ∃ (u : Addr) (a b : Nat), vs = [.ref u, .int a, .int b] ∧ UrnO H u ∧ a ≤ b ∧ b ≤ 7 ∧ ∀ (l : List Nat) H', Ext (mU u) H H' → Nm l a b → Q (.str (tx l)) H'
theorem ok_names (F : Fun K "_law_names" "_law_names" s_law_names f fd) (T : Txt K mg C) (C__law_cast : Can P w K mg base 1 "_law_cast" s_law_cast ["_law_urn_here", "_law_size"] sp_cast)
    (C__law_shuffled : Can P w K mg base 2 "_law_shuffled" s_law_shuffled ["_law_urn_here", "_law_items"] sp_shuffled) : FnOk P w K mg base CX0 3 f fd ["_law_urn_here", "_law_least", "_law_most"] sp_names := by
  refine F.ok sc_law_names (fun vs H Q E h => ?_) (fun cdv A outer s H vs Q E hr h => ?_)
  · obtain ⟨_, _, _, rfl, _⟩ := h; rfl
  · obtain ⟨u, a, b, rfl, hU, hab, hb, k⟩ := h
    refine ⟨_, (pss_cons (ps_set (i := 3) sc_law_names.nd rfl (Or.inl rfl) pe_str)
      (pss_cons (ps_set (i := 4) sc_law_names.nd rfl (Or.inl rfl) (pe_op op_add (pv 1) (pe_can C__law_cast (hr.mono (by decide)) (pa_cons (pv 0) (pa_cons (pe_op op_add (pe_op op_sub (pv 2) (pv 1)) pe_int) pa_nil)))))
      (pss_cons (ps_if (pt_cmpR op_eq (pe_can C__law_cast (hr.mono (by decide)) (pa_cons (pv 0) (pa_cons pe_int pa_nil))) pe_int (nomark _)) (pss_one (ps_ret (pe_slice sl_str (pv 3) po_none (po_some (pv 4))))) pss_nil)
      (pss_one (ps_ret (pe_joinK K pe_str (pe_callB (cr_sortedSK K) (by rfl) T.sorted (by decide +kernel) (pa_cons (pe_slice (sl_listK K) (pe_can C__law_shuffled (hr.mono (by decide)) (pa_cons (pv 0) (pa_cons (pv 3) pa_nil))) po_none (po_some (pv 4))) pa_nil)))))))), ?_⟩
    have eL : (V.str "abcdefghijklmnopqrstuvwxyz") = V.str (tx lettersL) := rfl
    refine ⟨_, rfl, _, rfl, _, rfl, _, rfl, _, _, rfl, rfl, _, _, rfl, rfl, u, b - a + 1, ?_, hU, by omega, by omega, fun v H1 e1 hv => ?_⟩
    · exact congrArg (fun x => [V.ref u, V.int x]) (by omega)
    refine ⟨_, _, rfl, rfl, ?_⟩
    obtain ⟨m, hm, ham, hmb⟩ : ∃ m : Nat, ((a : Int) + (v : Int)) = (m : Int) ∧ a ≤ m ∧ m ≤ b := ⟨a + v, by omega, by omega, by omega⟩
    show _
    refine ⟨_, rfl, u, 2, rfl, hU.ext e1, by decide, by decide, fun v2 H2 e2 hv2 => ?_⟩
    refine ⟨rfl, _, rfl, ?_⟩
    cases decide (V.int (v2 : Int) = V.int 0) with
    | true =>
      refine iteT ⟨_, rfl, _, rfl, _, rfl, tx lettersL, rfl, by rw [tx_length]; exact sz5 (by decide), ?_⟩
      show Q (.str (cutS (tx lettersL) none (some ((a : Int) + (v : Int))))) H2
      rw [hm, cutS_to]
      have q := List.all_eq_true.mp letters_pre m (List.mem_range.mpr (by omega))
      rw [Bool.and_eq_true, decide_eq_true_iff] at q
      exact k _ H2 (e1.trans e2) ⟨q.1, by omega, by omega⟩
    | false =>
      refine iteF ⟨⟨_, rfl⟩, _, rfl, _, rfl, u, lettersL, rfl, (hU.ext e1).ext e2, by decide, fun R H3 row e3 nR hR hp => ?_⟩
      refine ⟨_, rfl, _, rfl, R, _, rfl, SqL.of hR, fun S hS => ?_⟩
      have ec : cutV (vsg row) none (some ((a : Int) + (v : Int))) = vsg (row.take m) := by
        rw [hm]
        unfold cutV
        rw [HT.sIx_nat, HT.sIx_none, List.drop_zero, Nat.sub_zero]
        have hrl : row.length = 26 := hp.length_eq
        rw [Nat.min_eq_left (by rw [vsg, List.length_map]; omega), vsg, vsg, List.map_take]
      show _
      rw [ec]
      have hn : (row.take m).Nodup := (List.take_sublist _ _).nodup (hp.nodup_iff.mpr (letters_rise.imp fun h => Nat.ne_of_lt h))
      have hs : ∀ c ∈ row.take m, c ∈ lettersL := fun c hc => hp.mem_iff.mp (List.mem_of_mem_take hc)
      obtain ⟨q1, q2, q3⟩ := lot_of hn hs
      have ev : vsg (row.take m) = (((row.take m).map fun c => [c]).map tx).map V.str := by rw [vsg, List.map_map, List.map_map]; rfl
      have hml : (row.take m).length = m := by rw [List.length_take, hp.length_eq]; exact Nat.min_eq_left (by show m ≤ 26; omega)
      refine ⟨S, ((row.take m).map fun c => [c]).map tx, rfl, ?_, ?_, fun ys p hq hs2 hn2 => ?_⟩
      · rw [← ev]; exact SqL.of upd_same
      · rw [List.length_map, List.length_map]; omega
      rw [sorted_is hq hs2]
      refine ⟨tx [], p, _, rfl, rfl, .inl (SqL.of upd_same), ?_, ?_⟩
      · rw [sum_len, q1, q3, tx_length, hml]
        show m + _ * 0 ≤ _
        omega
      · rw [tx_join, q1]
        refine k _ _ (((e1.trans e2).trans e3).trans ((Ext.new hS).trans (.new hn2))) ⟨q2, by omega, by omega⟩
end
end K20
set_option Elab.async false
set_option linter.all false
set_option maxRecDepth 100000
set_option maxHeartbeats 4000000
namespace K20
open PySem PySem.Spec PyProof.Rows L2 Nf
section
/-! ### two of a row -/
def twosTo (l : List Nat) (i : Nat) : List (List Nat) := (List.range i).flatMap fun k => (l.drop (k + 1)).map fun m => [l.getD k 0, m]
theorem comb1 : ∀ l : List Nat, combIx 1 l = l.map fun m => [m]
  | [] => rfl
  | a :: l => by rw [combIx, comb1 l, List.map_cons]; simp [combIx]
theorem twos_all : ∀ l : List Nat, twosTo l l.length = combIx 2 l
  | [] => rfl
  | a :: l => by
    have ih := twos_all l
    rw [combIx, comb1, ← ih]
    unfold twosTo
    rw [List.length_cons, List.range_succ_eq_map, List.flatMap_cons, List.flatMap_map, List.map_map]
    rfl
theorem combIx_nd : ∀ (r : Nat) (l : List Nat), l.Nodup → (combIx r l).Nodup
  | 0, l, _ => by simp [combIx]
  | r + 1, [], _ => by simp [combIx]
  | r + 1, a :: l, h => by
    rw [List.nodup_cons] at h
    rw [combIx, List.nodup_append]
    refine ⟨(combIx_nd r l h.2).map _ (fun x y q e => q (List.cons.inj e).2), combIx_nd (r + 1) l h.2, fun x hx y hy e => ?_⟩
    subst e
    obtain ⟨z, _, rfl⟩ := List.mem_map.mp hx
    exact h.1 (combIx_mem _ _ _ hy a List.mem_cons_self)
theorem comb2_of : ∀ (l : List Nat) (a b : Nat), a ∈ l → b ∈ l → a ≠ b → [a, b] ∈ combIx 2 l ∨ [b, a] ∈ combIx 2 l
  | c :: l, a, b, ha, hb, hab => by
    rw [combIx, comb1]
    simp only [List.mem_append, List.mem_map]
    rcases List.mem_cons.mp ha with h1 | ha2
    · rcases List.mem_cons.mp hb with h2 | hb2
      · exact absurd (h1.trans h2.symm) hab
      · rw [h1]; exact .inl (.inl ⟨[b], ⟨b, hb2, rfl⟩, rfl⟩)
    · rcases List.mem_cons.mp hb with h2 | hb2
      · rw [h2]; exact .inr (.inl ⟨[a], ⟨a, ha2, rfl⟩, rfl⟩)
      · rcases comb2_of l a b ha2 hb2 hab with h | h
        · exact .inl (.inr h)
        · exact .inr (.inr h)
/-! ### lots -/
def rowStep (acc : List (List Nat)) (c : Nat) : List (List Nat) := acc ++ acc.map (fun x => x ++ [c]) ++ [[c]]
def rowL (l : List Nat) : List (List Nat) := l.foldl rowStep []
theorem rowL_map (f : Nat → Nat) : ∀ (l : List Nat) (acc : List (List Nat)), (l.map f).foldl rowStep (acc.map (·.map f)) = (l.foldl rowStep acc).map (·.map f)
  | [], acc => rfl
  | c :: l, acc => by
    rw [List.map_cons, List.foldl_cons, List.foldl_cons, ← rowL_map f l]
    congr 1
    simp [rowStep, List.map_map]
theorem row_all : ((List.range 7).all fun n => (rowL (List.range n)).isPerm (lotsL (List.range n)) && decide ((rowL (List.range n)).length < 64)) = true := by decide +kernel
theorem row_lots {l : List Nat} (h : l.length ≤ 6) : (rowL l).Perm (lotsL l) := by
  have e1 : rowL l = (rowL (List.range l.length)).map (·.map fun i => l.getD i 0) := by
    have := rowL_map (fun i => l.getD i 0) (List.range l.length) []
    rw [range_map] at this
    exact this
  have e2 : lotsL l = (lotsL (List.range l.length)).map (·.map fun i => l.getD i 0) := by
    unfold lotsL
    rw [List.map_flatMap, List.length_range]
    congr 1
    funext k
    exact (comb_rows (k + 1) l).symm
  have q := List.all_eq_true.mp row_all l.length (List.mem_range.mpr (by omega))
  rw [Bool.and_eq_true, List.isPerm_iff] at q
  rw [e1, e2]
  exact q.1.map _
theorem rowStep_le (acc : List (List Nat)) (c : Nat) : acc.length ≤ (rowStep acc c).length := by
  unfold rowStep; rw [List.length_append, List.length_append]; omega
theorem foldl_mono : ∀ (l : List Nat) (acc : List (List Nat)), acc.length ≤ (l.foldl rowStep acc).length
  | [], _ => Nat.le_refl _
  | c :: l, acc => Nat.le_trans (rowStep_le acc c) (foldl_mono l _)
theorem row_take {l : List Nat} (h : l.length ≤ 6) (i : Nat) : (rowL (l.take i)).length < 64 := by
  have q : (rowL l).length < 64 := by rw [(row_lots h).length_eq]; exact lots_small h
  have : rowL l = (l.drop i).foldl rowStep (rowL (l.take i)) := by unfold rowL; rw [← List.foldl_append, List.take_append_drop]
  rw [this] at q
  exact Nat.lt_of_le_of_lt (foldl_mono _ _) q
theorem row_snoc {l : List Nat} {i c : Nat} (h : l[i]? = some c) : rowL (l.take (i + 1)) = rowStep (rowL (l.take i)) c := by
  rw [take_snoc h, rowL, List.foldl_append]; rfl
theorem row_len {n : Nat} : ∀ (l : List Nat) (acc : List (List Nat)), (∀ x ∈ acc, x.length ≤ n) → ∀ x ∈ l.foldl rowStep acc, x.length ≤ n + l.length
  | [], acc, h => h
  | c :: l, acc, h => by
    have := row_len (n := n + 1) l (rowStep acc c) (fun x hx => by
      unfold rowStep at hx
      simp only [List.mem_append, List.mem_map, List.mem_singleton] at hx
      rcases hx with (hx | ⟨y, hy, rfl⟩) | rfl
      · exact Nat.le_succ_of_le (h x hx)
      · rw [List.length_append, List.length_singleton]; exact Nat.succ_le_succ (h y hy)
      · simp)
    intro x hx
    have := this x hx
    rw [List.length_cons]; omega
variable {P : Program} {w : World} {K : PySem.W.Frag} {mg : Str → Option Value} {base : Heap} {C : Addr} {f : Addr} {fd : FuncData}
def sp_twos : Sp := fun vs H Q _ => ∃ l : List Nat, vs = [.str (tx l)] ∧ l.length ≤ 7 ∧ ∀ p H', Sm H H' → H p = none → H' p = some (.lst (vtx (combIx 2 l))) → Q (.ref p) H'
theorem ok_twos (F : Fun K "_law_twos" "_law_twos" s_law_twos f fd) (T : Txt K mg C) : FnOk P w K mg base CX0 1 f fd ["_law_names_here"] sp_twos := by
  refine F.ok sc_law_twos (fun vs H Q E h => ?_) (fun cdv A outer s H vs Q E hr h => ?_)
  · obtain ⟨_, rfl, _⟩ := h; rfl
  · obtain ⟨l, rfl, hl, k⟩ := h
    have ez : (tx l).length = l.length := tx_length l
    refine ⟨_, (pss_cons (ps_set (i := 1) sc_law_twos.nd rfl (Or.inl rfl) (pe_lst pa_nil))
      (pss_cons (ps_for PassesOwn.never rfl (pi_range1 (by rfl) T.range (pa_cons (pe_callB call_len_str (by rfl) T.len PySem.boot_len (pa_cons (pv 0) pa_nil)) pa_nil)) (pg_name (i := 2) sc_law_twos.nd rfl (Or.inr rfl) (Or.inl rfl))
      (pss_one (ps_set (i := 1) sc_law_twos.nd rfl (Or.inl rfl) (pe_op op_cat (pv 1) (pe_lc (own := [("_law_mate", 3)]) rfl sc_law_twos.nd (pi_str (pe_slice sl_str (pv 0) (po_some (pe_op op_add (pv 2) pe_int)) po_none)) (blkOk_by (own := [("_law_mate", 3)]) (N := N_law_twos) (sc := defScope s_law_twos) (by decide +kernel)) (fun _ _ _ _ _ => (pg_name (i := 3) sc_law_twos.nd rfl (Or.inl rfl) (Or.inr rfl))) (fun _ _ _ _ _ => pts_nil) (fun _ _ _ _ _ => (pe_op op_add_str (pe_ix ix_str (pv 0) (pv 2) (fun _ _ => rfl)) (pv 3))))))))
      (pss_one (ps_ret (pv 1))))), ?_⟩
    refine ⟨sz5 (by show 0 ≤ 1000000; decide), fun R hR => ?_⟩
    refine ⟨_, rfl, tx l, rfl, by rw [ez]; exact sz5 (by omega), _, rfl, by omega, by rw [ez]; omega, ?_⟩
    have en : ((tx l).length : Int).toNat = l.length := by rw [ez]; omega
    rw [en]
    have small : ∀ i, i ≤ l.length → (twosTo l i).length ≤ 7 * 7 := by
      intro i hi
      unfold twosTo
      rw [List.length_flatMap]
      have : ∀ i, ((List.range i).map fun k => ((l.drop (k + 1)).map fun m => [l.getD k 0, m]).length).sum ≤ 7 * i := by
        intro i
        induction i with
        | zero => exact Nat.le_refl _
        | succ i ih =>
          rw [List.range_succ, List.map_append, List.sum_append, List.map_singleton, List.sum_singleton, List.length_map, List.length_drop]
          omega
      exact Nat.le_trans (this i) (Nat.mul_le_mul_left 7 (by omega))
    refine for_it walk_range (fun i σ H' => Sm H H' ∧ ∃ (p : Addr) (y : Option V), H p = none ∧ H' p = some (.lst (vtx (twosTo l i))) ∧ σ = [some (.str (tx l)), some (.ref p), y, none]) ⟨.new hR, R, none, hR, upd_same, rfl⟩ (fun _ _ _ _ _ => trivial) ?_ ?_
    · rintro i x σ H2 H3 hi ⟨e, p, y, np, hp, rfl⟩ ⟨rfl, hx⟩
      have hx : x = V.int ((i : Nat) : Int) := by rw [hx]; exact congrArg V.int (by omega)
      subst hx
      have hi : i < l.length := hi
      have hc : l[i]? = some l[i] := List.getElem?_eq_getElem hi
      have ed : cutS (tx l) (some ((i : Int) + 1)) none = tx (l.drop (i + 1)) := cutS_from l (i + 1)
      refine ⟨_, rfl, _, rfl, _, rfl, _, _, rfl, rfl, _, rfl, tx l, rfl, by rw [ez]; exact sz5 (by omega), ?_⟩
      show _
      rw [ed]
      refine ⟨_, rfl, fun D hD => ?_⟩
      refine lcx (M := m0) (walk_tx (l.drop (i + 1))) hD (fun j L _ => L = vtx (((l.drop (i + 1)).take j).map fun m => [l[i], m])) rfl (fun _ _ => trivial) ?_ ?_
      · rintro j z H4 H5 L hj e2 hl' hz rfl ⟨rfl, c, hcc, rfl⟩
        refine ⟨rfl, yesT ?_⟩
        refine ⟨_, rfl, _, rfl, tx l, _, l[i], rfl, rfl, by rw [ez]; exact sz5 (by omega), by rw [tx_toList]; exact atI_nat hc, _, rfl, tx [l[i]], tx [c], rfl, rfl, by rw [tx_length, tx_length]; exact sz5 (by show 2 ≤ 1000000; decide), ?_⟩
        refine LW.add hD (.m0 _) e2 hl' (.refl _ _) ?_ ?_
        · rw [List.length_append, List.length_singleton, vtx, List.length_map, List.length_map, List.length_take, List.length_drop]; omega
        · show _ = vtx (List.map _ (List.take (j + 1) _))
          rw [take_snoc hcc, List.map_append, vtx, vtx, List.map_append, tx_append]; rfl
      · rintro L H4 e2 hl' rfl
        rw [List.take_length] at hl'
        have hp4 := Sm.at e2 hp
        refine ⟨p, D, _, _, rfl, rfl, hp4, hl', ?_, fun q hq => ?_⟩
        · have := small i (by omega)
          rw [vtx, List.length_map, vtx, List.length_map, List.length_map, List.length_drop]
          exact sz5 (by omega)
        · have nq : H q = none := (e.trans e2).fresh rfl hq
          refine ⟨(e.trans e2).mut nq, q, _, nq, ?_, rfl⟩
          rw [upd_same]
          unfold twosTo
          rw [range_flat, vtx, vtx, vtx, List.map_append, List.getD_eq_getElem?_getD, hc]
          rfl
    · rintro σ H2 ⟨e, p, y, np, hp, rfl⟩
      rw [twos_all] at hp
      exact ⟨_, rfl, k p H2 e np hp⟩
def sp_splits : Sp := fun vs H Q _ => ∃ (p : List Nat) (a b : Nat), vs = [.str (tx p), .str (tx [a, b])] ∧ Q (.bl (isPartedM p a b)) H
theorem ok_splits (F : Fun K "_law_splits" "_law_splits" s_law_splits f fd) (T : Txt K mg C) : FnOk P w K mg base CX0 1 f fd ["_law_lot", "_law_two"] sp_splits := by
  refine F.ok sc_law_splits (fun vs H Q E h => ?_) (fun cdv A outer s H vs Q E hr h => ?_)
  · obtain ⟨p, a, b, rfl, _⟩ := h; rfl
  · obtain ⟨p, a, b, rfl, k⟩ := h
    refine ⟨_, (pss_one (ps_ret (pe_cmpR op_ne (pe_cmpR op_in_sign (pe_ix ix_str (pv 1) pe_int (fun _ _ => rfl)) (pv 0) rfl) (pe_cmpR op_in_sign (pe_ix ix_str (pv 1) pe_int (fun _ _ => rfl)) (pv 0) rfl) (nomark _)))), ?_⟩
    refine ⟨_, rfl, _, _, a, rfl, rfl, by rw [tx_length]; exact sz5 (by show 2 ≤ _; decide), rfl, _, rfl, a, tx p, rfl, rfl, ?_⟩
    refine ⟨_, rfl, _, _, b, rfl, rfl, by rw [tx_length]; exact sz5 (by show 2 ≤ _; decide), rfl, _, rfl, b, tx p, rfl, rfl, rfl, ?_⟩
    rw [tx_toList, dec_bl]
    exact k
def sp_lots : Sp := fun vs H Q _ => ∃ l : List Nat, vs = [.str (tx l)] ∧ l.length ≤ 7 ∧ ∀ p H', Sm H H' → H p = none → H' p = some (.lst (vtx (srt (lotsL (l.drop 1))))) → Q (.ref p) H'
theorem ok_lots (F : Fun K "_law_lots" "_law_lots" s_law_lots f fd) (T : Txt K mg C) : FnOk P w K mg base CX0 1 f fd ["_law_names_here"] sp_lots := by
  refine F.ok sc_law_lots (fun vs H Q E h => ?_) (fun cdv A outer s H vs Q E hr h => ?_)
  · obtain ⟨_, rfl, _⟩ := h; rfl
  · obtain ⟨l, rfl, hl, k⟩ := h
    have hd6 : (l.drop 1).length ≤ 6 := by rw [List.length_drop]; omega
    refine ⟨_, (pss_cons (ps_set (i := 1) sc_law_lots.nd rfl (Or.inl rfl) (pe_lst pa_nil))
      (pss_cons (ps_for PassesOwn.never rfl (pi_str (pe_slice sl_str (pv 0) (po_some pe_int) po_none)) (pg_name (i := 2) sc_law_lots.nd rfl (Or.inr rfl) (Or.inl rfl))
      (pss_one (ps_set (i := 1) sc_law_lots.nd rfl (Or.inl rfl) (pe_op op_cat (pe_op op_cat (pv 1) (pe_lc (own := [("_law_lot", 3)]) rfl sc_law_lots.nd (pi_listK K (pv 1)) (blkOk_by (own := [("_law_lot", 3)]) (N := N_law_lots) (sc := defScope s_law_lots) (by decide +kernel)) (fun _ _ _ _ _ => (pg_name (i := 3) sc_law_lots.nd rfl (Or.inl rfl) (Or.inr rfl))) (fun _ _ _ _ _ => pts_nil) (fun _ _ _ _ _ => (pe_op op_add_str (pv 3) (pv 2))))) (pe_lst (pa_cons (pv 2) pa_nil))))))
      (pss_one (ps_ret (pe_callB (cr_sortedSK K) (by rfl) T.sorted (by decide +kernel) (pa_cons (pv 1) pa_nil)))))), ?_⟩
    refine ⟨sz5 (by show 0 ≤ 1000000; decide), fun R hR => ?_⟩
    refine ⟨_, rfl, 1, rfl, tx l, rfl, by rw [tx_length]; exact sz5 (by omega), ?_⟩
    rw [cut_from1]
    refine ⟨_, rfl, ?_⟩
    refine for_it (walk_tx (l.drop 1)) (fun i σ H' => Sm H H' ∧ ∃ (p : Addr) (y : Option V), H p = none ∧ H' p = some (.lst (vtx (rowL ((l.drop 1).take i)))) ∧ σ = [some (.str (tx l)), some (.ref p), y, none]) ⟨.new hR, R, none, hR, upd_same, rfl⟩ (fun _ _ _ _ _ => trivial) ?_ ?_
    · rintro i x σ H2 H3 hi ⟨e, p, y, np, hp, rfl⟩ ⟨rfl, c, hc, rfl⟩
      have hsm := row_take hd6 i
      have hll : ∀ x ∈ rowL ((l.drop 1).take i), x.length ≤ 6 := fun x hx => by
        have := row_len (n := 0) ((l.drop 1).take i) [] (by simp) x hx
        rw [List.length_take] at this
        omega
      refine ⟨_, rfl, _, rfl, p, rfl, ⟨_, SqL.of hp⟩, fun D hD => ?_⟩
      refine lcx (M := m0) (walk_list (xs := vtx (rowL ((l.drop 1).take i)))) hD (fun j L _ => L = vtx (((rowL ((l.drop 1).take i)).take j).map fun x => x ++ [c])) rfl (fun H' e2 => SqL.of (Sm.at e2 hp)) ?_ ?_
      · rintro j z H4 H5 L hj e2 hl' hz rfl ⟨rfl, hz2⟩
        obtain ⟨lot, hlot, rfl⟩ := vtx_get (ls := rowL ((l.drop 1).take i)) hz2
        have h6 := hll lot (List.mem_of_getElem? hlot)
        refine ⟨rfl, yesT ⟨_, rfl, _, rfl, tx lot, tx [c], rfl, rfl, by rw [tx_length, tx_length]; exact sz5 (by show lot.length + 1 ≤ _; omega), ?_⟩⟩
        refine LW.add hD (.m0 _) e2 hl' (.refl _ _) ?_ ?_
        · rw [List.length_append, List.length_singleton, vtx, List.length_map, List.length_map, List.length_take]; omega
        · show _ = vtx (List.map _ (List.take (j + 1) _))
          rw [take_snoc hlot, List.map_append, vtx, vtx, List.map_append, tx_append]; rfl
      · rintro L H4 e2 hl' rfl
        rw [show (vtx (rowL ((l.drop 1).take i))).length = (rowL ((l.drop 1).take i)).length by rw [vtx, List.length_map], List.take_length] at hl'
        have hp4 := Sm.at e2 hp
        refine ⟨p, D, _, _, rfl, rfl, hp4, hl', ?_, fun q hq => ?_⟩
        · rw [vtx, List.length_map, vtx, List.length_map, List.length_map]; exact sz5 (by omega)
        refine ⟨_, rfl, sz5 (by show 1 ≤ 1000000; decide), fun q2 hq2 => ?_⟩
        have hqq : q ≠ q2 := fun z => by rw [← z, upd_same] at hq2; cases hq2
        have hq3 : (upd (upd H4 q (.lst (vtx (rowL ((l.drop 1).take i)) ++ vtx ((rowL ((l.drop 1).take i)).map fun x => x ++ [c])))) q2 (.lst [.str (tx [c])])) q = some (.lst (vtx (rowL ((l.drop 1).take i)) ++ vtx ((rowL ((l.drop 1).take i)).map fun x => x ++ [c]))) := by
          rw [upd_ne hqq]; exact upd_same
        refine ⟨q, q2, _, _, rfl, rfl, hq3, upd_same, ?_, fun q3 hn3 => ?_⟩
        · rw [List.length_append, vtx, List.length_map, vtx, List.length_map, List.length_map]
          exact sz5 (by show _ + 1 ≤ _; omega)
        have e5 := ((e.trans e2).trans (Ext.new hq)).trans (Ext.new (o := .lst [.str (tx [c])]) hq2)
        have nq := e5.fresh rfl hn3
        refine ⟨e5.mut nq, q3, _, nq, ?_, rfl⟩
        rw [upd_same, row_snoc hc]
        unfold rowStep
        rw [vtx, vtx, vtx, List.map_append, List.map_append]; rfl
    · rintro σ H2 ⟨e, p, y, np, hp, rfl⟩
      rw [List.take_length] at hp
      have e0 := hp
      rw [vtx_eq] at e0
      refine ⟨_, rfl, p, (rowL (l.drop 1)).map tx, rfl, SqL.of e0, ?_, fun ys q hq hs hn => ?_⟩
      · rw [List.length_map, (row_lots hd6).length_eq]; exact lots_small hd6
      rw [sorted_is hq hs]
      refine k q _ (e.mut (e.fresh rfl hn)) (e.fresh rfl hn) ?_
      rw [upd_same, ← vtx_eq, srt_congr (row_lots hd6)]
end
end K20
set_option Elab.async false
set_option linter.all false
set_option maxRecDepth 100000
set_option maxHeartbeats 4000000
namespace K20
open PySem PySem.Spec PyProof.Rows L2 Nf
section
/-! ### a list of pairs, grown -/
def PairsAt (M : Mv) (H : Hp) (D : Addr) (kvs : List (Key × V)) (as : List Addr) : Prop :=
  as.length = kvs.length ∧ ∀ (i : Nat) b kv, as[i]? = some b → kvs[i]? = some kv → b ≠ D ∧ M b = none ∧ H b = some (.tup [kV kv.1, kv.2])
theorem PairsAt.nil {M : Mv} {H : Hp} {D : Addr} : PairsAt M H D [] [] := ⟨rfl, fun i b kv h => by simp at h⟩
theorem PairsAt.add {M : Mv} {H H' : Hp} {D b : Addr} {kvs : List (Key × V)} {as : List Addr} {o : HO} {k : Key} {v : V} (p : PairsAt M H D kvs as) (e : Ext M H H') (hb : H' b = some (.tup [kV k, v])) (hD : b ≠ D) (hm : M b = none) :
    PairsAt M (upd H' D o) D (kvs ++ [(k, v)]) (as ++ [b]) := by
  obtain ⟨p1, p2⟩ := p
  refine ⟨by rw [List.length_append, List.length_append, p1]; rfl, fun i c kv hc hk => ?_⟩
  by_cases hi : i < kvs.length
  · rw [List.getElem?_append_left (by omega)] at hc
    rw [List.getElem?_append_left hi] at hk
    obtain ⟨q1, q2, q3⟩ := p2 i c kv hc hk
    exact ⟨q1, q2, by rw [upd_ne q1]; exact e.at q2 q3⟩
  · rw [List.getElem?_append_right (by omega)] at hc hk
    have h0 : i - kvs.length = 0 := by
      have := (List.getElem?_eq_some_iff.mp hk).1
      rw [List.length_singleton] at this
      omega
    rw [p1, h0] at hc
    rw [h0] at hk
    cases hc
    cases hk
    exact ⟨hD, hm, by rw [upd_ne hD]; exact hb⟩
theorem PairsAt.paired {M : Mv} {K : PySem.W.Frag} {H : Hp} {D : Addr} : ∀ {kvs : List (Key × V)} {as : List Addr}, PairsAt M H D kvs as → Paired (fun p kv => SqT K H p [kV kv.1, kv.2]) as kvs
  | [], [], _ => .nil
  | [], b :: as, p => nomatch p.1
  | kv :: kvs, [], p => nomatch p.1
  | kv :: kvs, b :: as, p => .cons (SqT.of (p.2 0 b kv rfl rfl).2.2) (PairsAt.paired ⟨Nat.succ.inj p.1, fun i c kv2 hc hk => p.2 (i + 1) c kv2 hc hk⟩)
/-! ### dicts of distances -/
def knownD (fv : List Nat → Int) (ks : List (List Nat)) : List (Key × V) := ks.map fun r => (Sum.inr (tx r), V.int (fv r))
theorem key_ne {r s : List Nat} (h : r ≠ s) : (Sum.inr (tx r) : Key) ≠ Sum.inr (tx s) := fun e => h (tx_inj (Sum.inr.inj e))
theorem known_get (fv : List Nat → Int) : ∀ (ks : List (List Nat)) (r : List Nat), r ∈ ks → valV (knownD fv ks) (Sum.inr (tx r)) = some (.int (fv r))
  | k :: ks, r, h => by
    by_cases e : k = r
    · subst e; exact valV_pos (p := (Sum.inr (tx k), V.int (fv k))) rfl
    · rw [show knownD fv (k :: ks) = (Sum.inr (tx k), V.int (fv k)) :: knownD fv ks from rfl, valV_neg (p := (Sum.inr (tx k), V.int (fv k))) (key_ne e)]
      exact known_get fv ks r ((List.mem_cons.mp h).resolve_left fun q => e q.symm)
theorem known_none (fv : List Nat → Int) : ∀ (ks : List (List Nat)) (r : List Nat), r ∉ ks → valV (knownD fv ks) (Sum.inr (tx r)) = none
  | [], r, _ => rfl
  | k :: ks, r, h => by
    rw [List.mem_cons] at h
    rw [show knownD fv (k :: ks) = (Sum.inr (tx k), V.int (fv k)) :: knownD fv ks from rfl, valV_neg (p := (Sum.inr (tx k), V.int (fv k))) (key_ne fun e => h (.inl e.symm))]
    exact known_none fv ks r fun q => h (.inr q)
theorem known_merge (fv : List Nat → Int) : ∀ (ks pre : List (List Nat)), (pre ++ ks).Nodup → mergeK (knownD fv pre) (knownD fv ks) = knownD fv (pre ++ ks)
  | [], pre, _ => by rw [List.append_nil]; rfl
  | k :: ks, pre, h => by
    have h1 : k ∉ pre := fun q => by
      rw [List.nodup_append] at h
      exact h.2.2 k q k List.mem_cons_self rfl
    have e : putK (knownD fv pre) (Sum.inr (tx k)) (.int (fv k)) = knownD fv (pre ++ [k]) := by
      rw [putK_new _ (known_none fv pre k h1)]
      simp [knownD]
    show mergeK (putK (knownD fv pre) (Sum.inr (tx k)) (.int (fv k))) (knownD fv ks) = _
    rw [e, known_merge fv ks (pre ++ [k]) (by rw [List.append_assoc]; exact h), List.append_assoc]
    rfl
theorem self_merge (l : List Nat) : mergeK [] (l.map fun c => ((Sum.inr (tx [c, c]) : Key), V.int 0)) = selfD l := by
  rw [mergeK, List.foldl_map]
  rfl
/-- good at a key -/
def gAt (kvs : List (Key × V)) (r : List Nat) : Prop := ∃ d : Int, valV kvs (Sum.inr (tx r)) = some (.int d) ∧ 0 ≤ d ∧ d ≤ 1000000
theorem gAt.put {kvs : List (Key × V)} {r s : List Nat} {d : Int} (h : gAt kvs r ∨ r = s) (h0 : 0 ≤ d) (h1 : d ≤ 1000000) : gAt (putK kvs (Sum.inr (tx s)) (.int d)) r := by
  by_cases e : r = s
  · subst e; exact ⟨d, by rw [valV_put, if_pos rfl], h0, h1⟩
  · obtain ⟨d', q, q0, q1⟩ := h.resolve_right e
    exact ⟨d', by rw [valV_put, if_neg (key_ne e)]; exact q, q0, q1⟩
theorem putK_old {kvs : List (Key × V)} {k : Key} {y v : V} (h : valV kvs k = some y) : (putK kvs k v).length = kvs.length := by
  unfold putK
  rw [valV_any, h]
  simp
def FarG (l : List Nat) (kvs : List (Key × V)) : Prop := kvs.length ≤ 1000 ∧ ∀ a ∈ l, ∀ b ∈ l, gAt kvs [a, b]
theorem self_good (l : List Nat) : ∀ c ∈ l, gAt (selfD l) [c, c] := by
  have h : ∀ (m : List Nat) (acc : List (Key × V)) (c : Nat), (c ∈ m ∨ gAt acc [c, c]) → gAt (m.foldl (fun acc c => putK acc (Sum.inr (tx [c, c])) (.int 0)) acc) [c, c] := by
    intro m
    induction m with
    | nil => intro acc c h; exact h.resolve_left (by simp)
    | cons d m ih =>
      intro acc c h
      rw [List.foldl_cons]
      refine ih _ c ?_
      rcases h with h | h
      · rcases List.mem_cons.mp h with rfl | h
        · exact .inr (gAt.put (.inr rfl) (by decide) (by decide))
        · exact .inl h
      · exact .inr (gAt.put (.inl h) (by decide) (by decide))
  exact fun c hc => h l [] c (.inl hc)
theorem rowD_good {kvs : List (Key × V)} {r : List Nat × Int} {s : List Nat} (h : gAt kvs s ∨ s = r.1 ∨ s = r.1.reverse) (h0 : 0 ≤ r.2) (h1 : r.2 ≤ 1000000) : gAt (rowD kvs r) s := by
  unfold rowD
  refine gAt.put ?_ h0 h1
  rcases h with h | h | h
  · exact .inl (gAt.put (.inl h) h0 h1)
  · exact .inl (gAt.put (.inr h) h0 h1)
  · exact .inr h
theorem both_good {l : List Nat} {rows : List (List Nat × Int)} (hr : rows.map (·.1) = combIx 2 l) (hb : ∀ r ∈ rows, 0 ≤ r.2 ∧ r.2 ≤ 1000000) (hl : l.length ≤ 7) : FarG l (bothD l rows) := by
  have h : ∀ (rs : List (List Nat × Int)) (acc : List (Key × V)) (s : List Nat), (∀ r ∈ rs, 0 ≤ r.2 ∧ r.2 ≤ 1000000) → (gAt acc s ∨ ∃ r ∈ rs, s = r.1 ∨ s = r.1.reverse) → gAt (rs.foldl rowD acc) s := by
    intro rs
    induction rs with
    | nil => intro acc s _ h; exact h.resolve_right (by rintro ⟨r, hr, _⟩; cases hr)
    | cons r rs ih =>
      intro acc s hb h
      rw [List.foldl_cons]
      have b0 := hb r List.mem_cons_self
      refine ih _ s (fun x hx => hb x (List.mem_cons_of_mem _ hx)) ?_
      rcases h with h | ⟨x, hx, e⟩
      · exact .inl (rowD_good (.inl h) b0.1 b0.2)
      · rcases List.mem_cons.mp hx with rfl | hx
        · exact .inl (rowD_good (.inr e) b0.1 b0.2)
        · exact .inr ⟨x, hx, e⟩
  have mem : ∀ s ∈ combIx 2 l, ∃ r ∈ rows, r.1 = s := fun s hs => by rw [← hr] at hs; obtain ⟨r, h1, h2⟩ := List.mem_map.mp hs; exact ⟨r, h1, h2⟩
  refine ⟨?_, fun a ha b hb2 => h rows (selfD l) [a, b] hb ?_⟩
  · have q := bothD_len l rows
    have q2 : rows.length = (combIx 2 l).length := by rw [← hr, List.length_map]
    have q3 := comb7 (r := 2) hl (by decide)
    omega
  · by_cases e : a = b
    · subst e; exact .inl (self_good l a ha)
    · rcases comb2_of l a b ha hb2 e with q | q
      · obtain ⟨r, h1, h2⟩ := mem _ q
        exact .inr ⟨r, h1, .inl h2.symm⟩
      · obtain ⟨r, h1, h2⟩ := mem _ q
        exact .inr ⟨r, h1, .inr (by rw [h2]; rfl)⟩
variable {P : Program} {w : World} {K : PySem.W.Frag} {mg : Str → Option Value} {base : Heap} {C : Addr} {f : Addr} {fd : FuncData}
/-! ### both -/
def KnownAt (H : Hp) (a : Addr) (l : List Nat) (fv : List Nat → Int) : Prop := H a = some (.dK (knownD fv (combIx 2 l)))
def sp_both : Sp := fun vs H Q _ => ∃ (l : List Nat) (a : Addr) (fv : List Nat → Int), vs = [.str (tx l), .ref a] ∧ l.length ≤ 7 ∧ KnownAt H a l fv ∧ (∀ r ∈ combIx 2 l, 0 ≤ fv r ∧ fv r ≤ 1000000) ∧
  ∀ p H' kvs, Sm H H' → H p = none → H' p = some (.dK kvs) → FarG l kvs → Q (.ref p) H'
theorem ok_both (F : Fun K "_law_both" "_law_both" s_law_both f fd) (T : Txt K mg C) (C__law_twos : Can P w K mg base 1 "_law_twos" s_law_twos ["_law_names_here"] sp_twos) : FnOk P w K mg base CX0 2 f fd ["_law_names_here", "_law_known"] sp_both := by
  refine F.ok sc_law_both (fun vs H Q E h => ?_) (fun cdv A outer s H vs Q E hr h => ?_)
  · obtain ⟨_, _, _, rfl, _⟩ := h; rfl
  · obtain ⟨l, a, fv, rfl, hl, ha, hfv, k⟩ := h
    have hu := hu_of hr
    have z : sizeLine = 16777216 := sizeLine_eq
    refine ⟨_, (pss_cons (ps_set (i := 2) sc_law_both.nd rfl (Or.inl rfl) (pe_callTy (call_dictPK K rfl) (by rfl) T.dict (by decide +kernel) (pa_cons (pe_lc (own := [("_law_name", 3)]) rfl sc_law_both.nd (pi_str (pv 0)) (blkOk_by (own := [("_law_name", 3)]) (N := N_law_both) (sc := defScope s_law_both) (by decide +kernel)) (fun _ _ _ _ _ => (pg_name (i := 3) sc_law_both.nd rfl (Or.inl rfl) (Or.inr rfl))) (fun _ _ _ _ _ => pts_nil) (fun _ _ _ _ _ => (pe_tup (pa_cons (pe_op op_add_str (pv 3) (pv 3)) (pa_cons pe_int pa_nil))))) pa_nil)))
      (pss_cons (ps_for PassesOwn.never rfl (pi_listK K (pe_can C__law_twos (hr.mono (by decide)) (pa_cons (pv 0) pa_nil))) (pg_name (i := 4) sc_law_both.nd rfl (Or.inl rfl) (Or.inr rfl))
      (pss_one (ps_asg (pe_tup (pa_cons (pe_dget hu (pv 1) (pv 4) (fun _ _ => rfl)) (pa_cons (pe_dget hu (pv 1) (pv 4) (fun _ _ => rfl)) pa_nil))) (pg_tup2K K rfl (pgs_cons (pg_sub (pv 2) (pv 4) (set_dict hu)) (pgs_cons (pg_sub (pv 2) (pe_back (pv 4)) (set_dict hu)) pgs_nil))))))
      (pss_one (ps_ret (pv 2))))), ?_⟩
    refine ⟨_, rfl, tx l, rfl, fun D hD => ?_⟩
    refine lcx (M := m0) (walk_tx l) hD (fun i L H' => ∃ as, L = as.map V.ref ∧ PairsAt m0 H' D ((l.take i).map fun c => ((Sum.inr (tx [c, c]) : Key), V.int 0)) as) ⟨[], rfl, PairsAt.nil⟩ (fun _ _ => trivial) ?_ ?_
    · rintro i x H1 H2 L hi e hl' hz ⟨as, rfl, hpa⟩ ⟨rfl, c, hc, rfl⟩
      refine ⟨rfl, yesT ?_⟩
      refine ⟨_, rfl, _, rfl, tx [c], tx [c], rfl, rfl, by rw [tx_length]; exact sz5 (by show 2 ≤ 1000000; decide), sz5 (by show 2 ≤ 1000000; decide), fun q hq => ?_⟩
      have hqD : q ≠ D := fun z => by rw [z, hl'] at hq; cases hq
      refine LW.add hD (.m0 _) e hl' (.new hq) ?_ ⟨as ++ [q], by rw [List.map_append]; rfl, ?_⟩
      · rw [List.length_append, List.length_singleton, List.length_map, hpa.1, List.length_map, List.length_take]; omega
      · rw [take_snoc hc, List.map_append]
        exact hpa.add (.new hq) (by rw [upd_same, tx_append]; rfl) hqD rfl
    · rintro L H1 e hl' ⟨as, rfl, hpa⟩
      rw [List.take_length] at hpa
      refine ⟨D, as, _, rfl, SqL.of hl', hpa.paired, fun p hp => ?_⟩
      rw [self_merge]
      have np : H p = none := e.fresh rfl hp
      have e1 : Sm H (upd H1 p (.dK (selfD l))) := e.mut np
      have ha1 := Sm.at e1 ha
      refine ⟨_, rfl, l, rfl, hl, fun tw H2 e2 ntw htw => ?_⟩
      have hrl := comb7 (r := 2) hl (by decide)
      have hp2 : H2 p = some (.dK (selfD l)) := Sm.at e2 upd_same
      refine ⟨tw, rfl, ⟨_, SqL.of htw⟩, ?_⟩
      refine for_it (walk_list (xs := vtx (combIx 2 l))) (fun i σ H' => Sm H H' ∧ H' tw = some (.lst (vtx (combIx 2 l))) ∧ H' p = some (.dK (bothD l (((combIx 2 l).take i).map fun r => (r, fv r)))) ∧ ∃ y y2, σ = [some (.str (tx l)), some (.ref a), some (.ref p), y, y2]) ⟨e1.trans e2, htw, hp2, _, _, rfl⟩ (fun _ _ _ _ q => SqL.of q.2.1) ?_ ?_
      · rintro i x σ H3 H4 hi ⟨e3, ht3, hp3, y, y2, rfl⟩ ⟨rfl, hx⟩
        obtain ⟨r, hri, rfl⟩ := vtx_get hx
        have hrm := List.mem_of_getElem? hri
        have hr2 := combIx_len _ _ _ hrm
        have hg : DGet H4 a (kV (Sum.inr (tx r))) (some (V.int (fv r))) := by
          have := DGet.k (k := Sum.inr (tx r)) (Sm.at e3 ha)
          rw [known_get fv _ _ hrm] at this
          exact this
        have npt : p ≠ tw := fun q => by rw [q, htw] at hp2; cases hp2
        refine ⟨_, rfl, _, rfl, a, _, rfl, hg, _, rfl, _, rfl, a, _, rfl, hg, sz5 (by show 2 ≤ 1000000; decide), fun t ht => ?_⟩
        have htp : p ≠ t := fun q => by rw [← q, hp3] at ht; cases ht
        have htt : tw ≠ t := fun q => by rw [← q, ht3] at ht; cases ht
        have hlen := bothD_len l (((combIx 2 l).take i).map fun r => (r, fv r))
        rw [List.length_map, List.length_take] at hlen
        refine ⟨t, _, rfl, SqT.of upd_same, rfl, _, _, rfl, _, rfl, _, rfl, p, _, rfl, DPut.k (k := Sum.inr (tx r)) (by rw [upd_ne htp]; exact hp3) (by omega), ?_⟩
        refine ⟨_, _, rfl, _, rfl, _, rfl, r, rfl, by omega, p, _, rfl, DPut.k (k := Sum.inr (tx r.reverse)) upd_same ?_, rfl, ?_⟩
        · have := putK_len (bothD l (((combIx 2 l).take i).map fun r => (r, fv r))) (Sum.inr (tx r)) (.int (fv r))
          omega
        · refine ⟨((e3.trans (.new ht)).mut np).mut np, ?_, ?_, _, _, rfl⟩
          · rw [upd_ne (Ne.symm npt), upd_ne (Ne.symm npt), upd_ne htt]; exact ht3
          · rw [upd_same, List.map_take, List.map_take, bothD_snoc (r := (r, fv r)) (by rw [List.getElem?_map, hri]; rfl)]
            rfl
      · rintro σ H3 ⟨e3, ht3, hp3, y, y2, rfl⟩
        rw [show (vtx (combIx 2 l)).length = (combIx 2 l).length by rw [vtx, List.length_map], List.take_length] at hp3
        refine ⟨_, rfl, k p H3 _ e3 np hp3 (both_good (by rw [List.map_map]; simp [Function.comp_def]) (fun r hr => ?_) hl)⟩
        obtain ⟨s, hs, rfl⟩ := List.mem_map.mp hr
        exact hfv s hs
end
end K20
set_option Elab.async false
set_option linter.all false
set_option maxRecDepth 100000
set_option maxHeartbeats 4000000
namespace K20
open PySem PySem.Spec PyProof.Rows L2 Nf
section
variable {P : Program} {w : World} {K : PySem.W.Frag} {mg : Str → Option Value} {base : Heap} {C : Addr} {f : Addr} {fd : FuncData}
theorem lot_nd {l : List Nat} (h : isLotM l lettersL = true) : l.Nodup := by
  rw [of_decide_eq_true h]
  exact List.filter_sublist.nodup (letters_rise.imp fun h => Nat.ne_of_lt h)
def updf (fv : List Nat → Int) (r : List Nat) (d : Int) : List Nat → Int := fun s => if s = r then d else fv s
theorem known_updf {fv : List Nat → Int} {r : List Nat} {d : Int} {ks : List (List Nat)} (h : r ∉ ks) : knownD (updf fv r d) (ks ++ [r]) = knownD fv ks ++ [(Sum.inr (tx r), V.int d)] := by
  unfold knownD
  rw [List.map_append]
  congr 1
  · refine List.map_congr_left fun s hs => ?_
    rw [updf, if_neg fun e => h (by rw [← e]; exact hs)]
  · simp [updf]
theorem not_take {ks : List (List Nat)} {i : Nat} {r : List Nat} (hn : ks.Nodup) (hr : ks[i]? = some r) : r ∉ ks.take i := by
  intro q
  obtain ⟨hi, e⟩ := List.getElem?_eq_some_iff.mp hr
  rw [← List.take_append_drop i ks, List.nodup_append] at hn
  have : r ∈ ks.drop i := by rw [← e]; exact List.mem_drop_iff_getElem.mpr ⟨0, by simpa using hi, by simp⟩
  exact hn.2.2 r q r this rfl
/-- known rows, grown: the place D, what is known of the first i -/
def KnGrow (M : Mv) (D : Addr) (l : List Nat) (i : Nat) (L : List V) (H : Hp) : Prop :=
  ∃ as fv, L = as.map V.ref ∧ PairsAt M H D (knownD fv ((combIx 2 l).take i)) as ∧ ∀ r ∈ (combIx 2 l).take i, 0 ≤ fv r ∧ fv r ≤ 1000000
theorem KnGrow.zero {M : Mv} {D : Addr} {l : List Nat} {H : Hp} : KnGrow M D l 0 [] H := ⟨[], fun _ => 0, rfl, PairsAt.nil, fun r h => by simp at h⟩
theorem KnGrow.len {M : Mv} {D : Addr} {l : List Nat} {i : Nat} {L : List V} {H : Hp} (g : KnGrow M D l i L H) : L.length ≤ (combIx 2 l).length := by
  obtain ⟨as, fv, rfl, p, _⟩ := g
  rw [List.length_map, p.1, knownD, List.length_map, List.length_take]; omega
theorem KnGrow.step {M : Mv} {D b : Addr} {l : List Nat} {i : Nat} {L : List V} {H H' : Hp} {o : HO} {r : List Nat} {d : Int} (g : KnGrow M D l i L H) (hn : l.Nodup) (hr : (combIx 2 l)[i]? = some r) (e : Ext M H H') (hb : H' b = some (.tup [.str (tx r), .int d])) (hD : b ≠ D) (hm : M b = none)
    (h0 : 0 ≤ d) (h1 : d ≤ 1000000) : KnGrow M D l (i + 1) (L ++ [.ref b]) (upd H' D o) := by
  obtain ⟨as, fv, rfl, p, hf⟩ := g
  have nt := not_take (combIx_nd 2 l hn) hr
  refine ⟨as ++ [b], updf fv r d, by rw [List.map_append]; rfl, ?_, fun s hs => ?_⟩
  · rw [take_snoc hr, known_updf nt]
    exact p.add e hb hD hm
  · rw [take_snoc hr, List.mem_append] at hs
    unfold updf
    split
    · exact ⟨h0, h1⟩
    · rename_i ne
      exact hf s (hs.resolve_right fun q => ne (List.mem_singleton.mp q))
theorem KnGrow.done {M : Mv} {D : Addr} {l : List Nat} {L : List V} {H : Hp} (g : KnGrow M D l (combIx 2 l).length L H) (hn : l.Nodup) : ∃ as fv, L = as.map V.ref ∧ (∀ K, Paired (fun p kv => SqT K H p [kV kv.1, kv.2]) as (knownD fv (combIx 2 l))) ∧
    mergeK [] (knownD fv (combIx 2 l)) = knownD fv (combIx 2 l) ∧ ∀ r ∈ combIx 2 l, 0 ≤ fv r ∧ fv r ≤ 1000000 := by
  obtain ⟨as, fv, e, p, hf⟩ := g
  rw [List.take_length] at p hf
  exact ⟨as, fv, e, fun K => p.paired, known_merge fv _ [] (combIx_nd 2 l hn), hf⟩
/-! ### made -/
def sp_made (C : Addr) : Sp := fun vs H Q _ => ∃ (l : List Nat) (a : Addr) (kvs : List (Key × V)), vs = [.str (tx l), .ref a] ∧ isLotM l lettersL = true ∧ 2 ≤ l.length ∧ l.length ≤ 7 ∧ H a = some (.dK kvs) ∧ FarG l kvs ∧
  ∀ t H', Sm H H' → H t = none → Tb C H' t l → Q (.ref t) H'
theorem gAt.val {kvs : List (Key × V)} {r : List Nat} (h : gAt kvs r) : ∃ d : Int, valV kvs (Sum.inr (tx r)) = some (.int d) ∧ 0 ≤ d ∧ d ≤ 1000000 := h
theorem mem_two {l : List Nat} {r : List Nat} (h : r ∈ combIx 2 l) : ∃ a b, r = [a, b] ∧ a ∈ l ∧ b ∈ l := by
  have h2 := combIx_len _ _ _ h
  have hm := combIx_mem _ _ _ h
  match r, h2 with
  | [a, b], _ => exact ⟨a, b, rfl, hm a (by simp), hm b (by simp)⟩
theorem ok_made (F : Fun K "_law_made" "_law_made" s_law_made f fd) (T : Txt K mg C) (C__law_twos : Can P w K mg base 1 "_law_twos" s_law_twos ["_law_names_here"] sp_twos) (C_Table : CanM P w K mg base 5 "Table" C ["self", "things", "distances"] (sp_Table C)) :
    FnOk P w K mg base CX0 7 f fd ["_law_names_here", "_law_far"] (sp_made C) := by
  refine F.ok sc_law_made (fun vs H Q E h => ?_) (fun cdv A outer s H vs Q E hr h => ?_)
  · obtain ⟨_, _, _, rfl, _⟩ := h; rfl
  · obtain ⟨l, a, kvs, rfl, hlot, h2, h7, ha, hG, k⟩ := h
    have hu := hu_of hr
    have hnd := lot_nd hlot
    refine ⟨_, (pss_one (ps_ret (pe_canM C_Table (hr.mono (by decide)) (pa_cons (pv 0) (pa_cons (pe_callTy (call_tuple_ofK K) (by rfl) T.tuple (by decide +kernel) (pa_cons (pe_lc (own := [("_law_two", 2)]) rfl sc_law_made.nd (pi_listK K (pe_can C__law_twos (hr.mono (by decide)) (pa_cons (pv 0) pa_nil))) (blkOk_by (own := [("_law_two", 2)]) (N := N_law_made) (sc := defScope s_law_made) (by decide +kernel)) (fun _ _ _ _ _ => (pg_name (i := 2) sc_law_made.nd rfl (Or.inl rfl) (Or.inr rfl))) (fun _ _ _ _ _ => pts_nil) (fun _ _ _ _ _ => (pe_tup (pa_cons (pv 2) (pa_cons (pe_dget hu (pv 1) (pv 2) (fun _ _ => rfl)) pa_nil))))) pa_nil)) pa_nil))))), ?_⟩
    refine ⟨_, rfl, _, rfl, l, rfl, h7, fun tw H1 e1 ntw htw => ?_⟩
    refine ⟨tw, rfl, ⟨_, SqL.of htw⟩, fun D hD => ?_⟩
    refine lcx (M := m0) (walk_list (xs := vtx (combIx 2 l))) hD (fun i L H' => KnGrow m0 D l i L H') KnGrow.zero (fun H' e => SqL.of (Sm.at e htw)) ?_ ?_
    · rintro i x H2 H3 L hi e hl' hz hg ⟨rfl, hx⟩
      obtain ⟨r, hri, rfl⟩ := vtx_get hx
      obtain ⟨x1, x2, rfl, m1, m2⟩ := mem_two (List.mem_of_getElem? hri)
      obtain ⟨d, hd, d0, d1⟩ := hG.2 x1 m1 x2 m2
      have hg2 : DGet H3 a (kV (Sum.inr (tx [x1, x2]))) (some (V.int d)) := by
        have := DGet.k (k := Sum.inr (tx [x1, x2])) (Sm.at (e1.trans e) ha)
        rw [hd] at this
        exact this
      refine ⟨rfl, yesT ⟨_, rfl, _, rfl, _, rfl, a, _, rfl, hg2, sz5 (by show 2 ≤ 1000000; decide), fun b hb => ?_⟩⟩
      have hbD : b ≠ D := fun z => by rw [z, hl'] at hb; cases hb
      have hlen := hg.len
      have h35 := comb7 (r := 2) h7 (by decide)
      exact LW.add hD (.m0 _) e hl' (.new hb) (by rw [List.length_append, List.length_singleton]; omega) (hg.step hnd hri (.new hb) upd_same hbD rfl d0 d1)
    · rintro L H2 e hl' hg
      have hg' : KnGrow m0 D l (combIx 2 l).length L H2 := by
        rw [show (vtx (combIx 2 l)).length = (combIx 2 l).length by rw [vtx, List.length_map]] at hg
        exact hg
      obtain ⟨as, fv, rfl, p, hf⟩ := hg'
      rw [List.take_length] at p hf
      refine ⟨D, _, rfl, .inl ⟨SqL.of hl', fun q hq => ?_⟩⟩
      intro t dx ht hdx hne
      have htq : t ≠ q := fun z => by rw [z, upd_same] at ht; cases ht
      have hdq : dx ≠ q := fun z => by rw [z, upd_same] at hdx; cases hdx
      have e3 : Sm H (upd H2 q (.tup (as.map V.ref))) := (e1.trans e).trans (.new hq)
      refine ⟨upd H2 q (.tup (as.map V.ref)), t, dx, l, q, (combIx 2 l).map fun r => (r, fv r), rfl, Ext.trans (.new hdx) (.new (by rw [upd_ne (Ne.symm hne)]; exact ht)), ht, upd_same, hlot, h2, h7, ?_, ⟨?_, ?_⟩, fun H' e4 hT => ⟨rfl, k t H' (e3.trans e4) (e3.fresh rfl ht) hT.tb⟩⟩
      · refine ⟨as, upd_same, ?_, fun i b r hb hr => ?_⟩
        · rw [p.1, knownD, List.length_map, List.length_map]
        · rw [List.getElem?_map] at hr
          cases q1 : (combIx 2 l)[i]? with
          | none => rw [q1] at hr; cases hr
          | some s =>
            rw [q1] at hr
            obtain rfl := Option.some.inj hr
            have q2 := p.2 i b (Sum.inr (tx s), V.int (fv s)) hb (by rw [knownD, List.getElem?_map, q1]; rfl)
            have hbq : b ≠ q := fun z => by rw [← z, q2.2.2] at hq; cases hq
            rw [upd_ne hbq]
            exact q2.2.2
      · rw [List.map_map]; simp [Function.comp_def]
      · intro r hr
        obtain ⟨s, hs, rfl⟩ := List.mem_map.mp hr
        exact hf s hs
/-! ### splits of texts and of lists of signs -/
theorem op_orR {X : Cx} {o : Value → Value → Sem Value} {r1 r2 : R2} (h1 : OpR X o r1) (h2 : OpR X o r2) : OpR X o (fun x y H Q => r1 x y H Q ∨ r2 x y H Q) := by
  intro pins s σ H x y v u Q I rx ry h
  rcases h with h | h
  · exact h1 pins s σ H x y v u Q I rx ry h
  · exact h2 pins s σ H x y v u Q I rx ry h
def sp_splits2 (K : PySem.W.Frag) : Sp := fun vs H Q _ => (∃ (p : List Nat) (a b : Nat), vs = [.str (tx p), .str (tx [a, b])] ∧ Q (.bl (isPartedM p a b)) H) ∨
  ∃ (m : Addr) (p : List Nat) (a b : Nat), vs = [.ref m, .str (tx [a, b])] ∧ SqL K H m (vsg p) ∧ ∀ r : Bool, Q (.bl r) H
theorem flat_vsg (p : List Nat) : (vsg p).all flatV = true := by
  rw [vsg, List.all_map]
  exact List.all_eq_true.mpr fun _ _ => rfl
theorem ok_splits2 (F : Fun K "_law_splits" "_law_splits" s_law_splits f fd) (T : Txt K mg C) : FnOk P w K mg base CX0 1 f fd ["_law_lot", "_law_two"] (sp_splits2 K) := by
  refine F.ok sc_law_splits (fun vs H Q E h => ?_) (fun cdv A outer s H vs Q E hr h => ?_)
  · rcases h with ⟨p, a, b, rfl, _⟩ | ⟨m, p, a, b, rfl, _⟩ <;> rfl
  · refine ⟨_, (pss_one (ps_ret (pe_cmpR op_ne (pe_cmpR (op_orR op_in_sign (op_in_seqK K)) (pe_ix ix_str (pv 1) pe_int (fun _ _ => rfl)) (pv 0) rfl) (pe_cmpR (op_orR op_in_sign (op_in_seqK K)) (pe_ix ix_str (pv 1) pe_int (fun _ _ => rfl)) (pv 0) rfl) (nomark _)))), ?_⟩
    rcases h with ⟨p, a, b, rfl, k⟩ | ⟨m, p, a, b, rfl, hm, k⟩
    · refine ⟨_, rfl, _, _, a, rfl, rfl, by rw [tx_length]; exact sz5 (by show 2 ≤ _; decide), rfl, _, rfl, .inl ⟨a, tx p, rfl, rfl, ?_⟩⟩
      refine ⟨_, rfl, _, _, b, rfl, rfl, by rw [tx_length]; exact sz5 (by show 2 ≤ _; decide), rfl, _, rfl, .inl ⟨b, tx p, rfl, rfl, rfl, ?_⟩⟩
      rw [tx_toList, dec_bl]
      exact k
    · refine ⟨_, rfl, _, _, a, rfl, rfl, by rw [tx_length]; exact sz5 (by show 2 ≤ _; decide), rfl, _, rfl, .inr ⟨m, _, rfl, .inl hm, rfl, flat_vsg p, ?_⟩⟩
      refine ⟨_, rfl, _, _, b, rfl, rfl, by rw [tx_length]; exact sz5 (by show 2 ≤ _; decide), rfl, _, rfl, .inr ⟨m, _, rfl, .inl hm, rfl, flat_vsg p, rfl, ?_⟩⟩
      exact k _
/-! ### shortened -/
def sp_shortened : Sp := fun vs H Q _ => ∃ (l : List Nat) (a : Addr) (kvs : List (Key × V)), vs = [.str (tx l), .ref a] ∧ l.length ≤ 7 ∧ H a = some (.dK kvs) ∧ FarG l kvs ∧ ∀ H' kvs', (∀ b, b ≠ a → H' b = H b) → H' a = some (.dK kvs') → FarG l kvs' → Q (.ref a) H'
theorem ok_shortened (F : Fun K "_law_shortened" "_law_shortened" s_law_shortened f fd) (T : Txt K mg C) : FnOk P w K mg base CX0 1 f fd ["_law_names_here", "_law_far"] sp_shortened := by
  refine F.ok sc_law_shortened (fun vs H Q E h => ?_) (fun cdv A outer s H vs Q E hr h => ?_)
  · obtain ⟨_, _, _, rfl, _⟩ := h; rfl
  · obtain ⟨l, a, kvs, rfl, h7, ha, hG, k⟩ := h
    have hu := hu_of hr
    refine ⟨_, (pss_cons (ps_for PassesOwn.never rfl (pi_str (pv 0)) (pg_name (i := 2) sc_law_shortened.nd rfl (Or.inl rfl) (Or.inr rfl))
      (pss_one (ps_for PassesOwn.never rfl (pi_str (pv 0)) (pg_name (i := 3) sc_law_shortened.nd rfl (Or.inl rfl) (Or.inr rfl))
      (pss_one (ps_for PassesOwn.never rfl (pi_str (pv 0)) (pg_name (i := 4) sc_law_shortened.nd rfl (Or.inl rfl) (Or.inr rfl))
      (pss_one (ps_dput hu (pv 1) (pe_op op_add_str (pv 3) (pv 4)) (pe_callB (call_min2 rfl) (by rfl) T.min (by decide +kernel) (pa_cons (pe_dget hu (pv 1) (pe_op op_add_str (pv 3) (pv 4)) (fun _ _ => rfl)) (pa_cons (pe_op op_add (pe_dget hu (pv 1) (pe_op op_add_str (pv 3) (pv 2)) (fun _ _ => rfl)) (pe_dget hu (pv 1) (pe_op op_add_str (pv 2) (pv 4)) (fun _ _ => rfl))) pa_nil))) rfl)))))))
      (pss_one (ps_ret (pv 1)))), ?_⟩
    refine ⟨_, rfl, tx l, rfl, ?_⟩
    refine for_it (walk_tx l) (fun i σ H' => (∀ b, b ≠ a → H' b = H b) ∧ (∃ kvs', H' a = some (.dK kvs') ∧ FarG l kvs') ∧ ∃ y1 y2 y3, σ = [some (.str (tx l)), some (.ref a), y1, y2, y3]) ⟨fun _ _ => rfl, ⟨kvs, ha, hG⟩, _, _, _, rfl⟩ (fun _ _ _ _ _ => trivial) ?_ ?_
    · rintro i x σ H2 H3 hi ⟨hs, hk, y1, y2, y3, rfl⟩ ⟨rfl, c1, hc1, rfl⟩
      have m1 := List.mem_of_getElem? hc1
      refine ⟨_, rfl, tx l, rfl, ?_⟩
      refine for_it (walk_tx l) (fun i σ H' => (∀ b, b ≠ a → H' b = H b) ∧ (∃ kvs', H' a = some (.dK kvs') ∧ FarG l kvs') ∧ ∃ y2 y3, σ = [some (.str (tx l)), some (.ref a), some (.str (tx [c1])), y2, y3]) ⟨hs, hk, _, _, rfl⟩ (fun _ _ _ _ _ => trivial) ?_ ?_
      · rintro i2 x2 σ2 H4 H5 hi2 ⟨hs2, hk2, y4, y5, rfl⟩ ⟨rfl, c2, hc2, rfl⟩
        have m2 := List.mem_of_getElem? hc2
        refine ⟨_, rfl, tx l, rfl, ?_⟩
        refine for_it (walk_tx l) (fun i σ H' => (∀ b, b ≠ a → H' b = H b) ∧ (∃ kvs', H' a = some (.dK kvs') ∧ FarG l kvs') ∧ ∃ y3, σ = [some (.str (tx l)), some (.ref a), some (.str (tx [c1])), some (.str (tx [c2])), y3]) ⟨hs2, hk2, _, rfl⟩ (fun _ _ _ _ _ => trivial) ?_ ?_
        · rintro i3 x3 σ3 H6 H7 hi3 ⟨hs3, ⟨kv3, hk3, hG3⟩, y6, rfl⟩ ⟨rfl, c3, hc3, rfl⟩
          have m3 := List.mem_of_getElem? hc3
          have get : ∀ u ∈ l, ∀ v ∈ l, ∃ d : Int, DGet H7 a (V.str (tx [u] ++ tx [v])) (some (V.int d)) ∧ 0 ≤ d ∧ d ≤ 1000000 := fun u hu v hv => by
            obtain ⟨d, q, d0, d1⟩ := hG3.2 u hu v hv
            have := DGet.k (k := Sum.inr (tx [u, v])) hk3
            rw [q] at this
            rw [tx_append]
            exact ⟨d, this, d0, d1⟩
          obtain ⟨d1, g1, b1, t1⟩ := get c2 m2 c3 m3
          obtain ⟨d2, g2, b2, t2⟩ := get c2 m2 c1 m1
          obtain ⟨d3, g3, b3, t3⟩ := get c1 m1 c3 m3
          have z2 : ∀ u v : Nat, (tx [u]).length + (tx [v]).length ≤ sizeLine := fun u v => by rw [tx_length, tx_length]; exact sz5 (by show 2 ≤ 1000000; decide)
          refine ⟨_, rfl, _, rfl, _, rfl, tx [c2], tx [c3], rfl, rfl, z2 _ _, a, _, rfl, g1, ?_⟩
          refine ⟨_, rfl, _, rfl, _, rfl, tx [c2], tx [c1], rfl, rfl, z2 _ _, a, _, rfl, g2, ?_⟩
          refine ⟨_, rfl, _, rfl, _, rfl, tx [c1], tx [c3], rfl, rfl, z2 _ _, a, _, rfl, g3, _, _, rfl, rfl, _, _, rfl, ?_⟩
          obtain ⟨d, hd, d0, dt⟩ : ∃ d : Int, (if d2 + d3 < d1 then d2 + d3 else d1) = d ∧ 0 ≤ d ∧ d ≤ 1000000 := by
            refine ⟨_, rfl, ?_, ?_⟩ <;> split <;> omega
          rw [hd]
          refine ⟨_, rfl, _, rfl, _, rfl, tx [c2], tx [c3], rfl, rfl, z2 _ _, a, _, rfl, DPut.k (k := Sum.inr (tx [c2, c3])) hk3 ?_, ?_⟩
          · have := hG3.1
            rw [sizeLine_eq]; omega
          refine ⟨fun b hb => by rw [upd_ne hb]; exact hs3 b hb, ⟨_, upd_same, ?_, ?_⟩, _, rfl⟩
          · obtain ⟨q, hq, _⟩ := hG3.2 c2 m2 c3 m3
            rw [putK_old hq]; exact hG3.1
          · exact fun u hu v hv => gAt.put (.inl (hG3.2 u hu v hv)) d0 dt
        · rintro σ3 H6 ⟨hs3, hk3, y6, rfl⟩
          exact ⟨hs3, hk3, _, _, rfl⟩
      · rintro σ2 H4 ⟨hs2, hk2, y4, y5, rfl⟩
        exact ⟨hs2, hk2, _, _, _, rfl⟩
    · rintro σ H2 ⟨hs, ⟨kvs', hk, hG'⟩, y1, y2, y3, rfl⟩
      exact ⟨_, rfl, k H2 kvs' hs hk hG'⟩
end
end K20
set_option Elab.async false
set_option linter.all false
set_option maxRecDepth 100000
set_option maxHeartbeats 4000000
namespace K20
open PySem PySem.Spec PyProof.Rows L2 Nf
section
theorem pg_tup3K {X : Cx} {K : PySem.W.Frag} {e1 e2 e3 : Expr} {k : Nat} {t : TGs} {pos : Pos} (hc : X.calm = true) (h : PGs X [e1, e2, e3] t) (hK : X.K = K := by rfl)
    (hn : (assignEach [e1, e2, e3] X.env).length = 3 := by rfl) (hst : (assignEach [e1, e2, e3] X.env).findIdx? (·.1) = none := by rfl) : PG X (.Tuple [e1, e2, e3] k pos) (gTup K 3 t) := hK ▸ pg_tup hc h hn hst
variable {P : Program} {w : World} {K : PySem.W.Frag} {mg : Str → Option Value} {base : Heap} {C : Addr} {f : Addr} {fd : FuncData}
theorem sum_bound : ∀ ns : List Int, (∀ n ∈ ns, 0 ≤ n ∧ n ≤ 1000) → 0 ≤ ns.sum ∧ ns.sum ≤ 1000 * ns.length
  | [], _ => by simp
  | n :: ns, h => by
    have ih := sum_bound ns fun x hx => h x (List.mem_cons_of_mem _ hx)
    have h0 := h n List.mem_cons_self
    rw [List.sum_cons, List.length_cons]
    omega
/-- marks: tuples of a list of signs and a size -/
def MarksAt (u : Addr) (H : Hp) (m : Addr) (n : Nat) : Prop := m ≠ u ∧ ∃ bs : List Addr, H m = some (.lst (bs.map V.ref)) ∧ bs.length = n ∧ ∀ b ∈ bs, b ≠ u ∧ b ≠ m ∧ ∃ q p d, q ≠ u ∧ q ≠ m ∧ H b = some (.tup [.ref q, .int d]) ∧ H q = some (.lst (vsg p)) ∧ 0 ≤ d ∧ d ≤ 1000
theorem MarksAt.ext {u m : Addr} {H H' : Hp} {n : Nat} (h : MarksAt u H m n) (e : Ext (mU u) H H') : MarksAt u H' m n := by
  obtain ⟨h0, bs, h1, h2, h3⟩ := h
  refine ⟨h0, bs, e.at (mU_ne h0) h1, h2, fun b hb => ?_⟩
  obtain ⟨c1, c2, q, p, d, c3, c4, c5, c6, c7⟩ := h3 b hb
  exact ⟨c1, c2, q, p, d, c3, c4, e.at (mU_ne c1) c5, e.at (mU_ne c3) c6, c7⟩
theorem MarksAt.add {u m b q : Addr} {H H' : Hp} {n : Nat} {p : List Nat} {d : Int} (h : MarksAt u H m n) (e : Ext (mU u) H H') (hb : H' b = some (.tup [.ref q, .int d])) (hq : H' q = some (.lst (vsg p))) (b1 : b ≠ u) (b2 : b ≠ m) (q1 : q ≠ u) (q2 : q ≠ m) (d0 : 0 ≤ d) (d1 : d ≤ 1000) :
    ∃ xs, H' m = some (.lst xs) ∧ xs.length = n ∧ MarksAt u (upd H' m (.lst (xs ++ [.ref b]))) m (n + 1) := by
  obtain ⟨h0, bs, h1, h2, h3⟩ := h.ext e
  refine ⟨_, h1, by rw [List.length_map, h2], h0, bs ++ [b], by rw [upd_same, List.map_append]; rfl, by rw [List.length_append, h2]; rfl, fun c hc => ?_⟩
  rcases List.mem_append.mp hc with hc | hc
  · obtain ⟨c1, c2, q', p', d', c3, c4, c5, c6, c7⟩ := h3 c hc
    exact ⟨c1, c2, q', p', d', c3, c4, by rw [upd_ne c2]; exact c5, by rw [upd_ne c4]; exact c6, c7⟩
  · rw [List.mem_singleton] at hc
    subst hc
    exact ⟨b1, b2, q, p, d, q1, q2, by rw [upd_ne b2]; exact hb, by rw [upd_ne q2]; exact hq, d0, d1⟩
abbrev sc_summed1 : Scope := { kind := .function, names := [(".0", .local), ("_law_two", .cell), ("sum", .globalImplicit), ("_law_marks", .cell)], isGenerator := false, isCoroutine := false }
def sp_summed : Sp := fun vs H Q _ => ∃ (l : List Nat) (u m : Addr) (n : Nat), vs = [.str (tx l), .ref m] ∧ isLotM l lettersL = true ∧ l.length ≤ 7 ∧ MarksAt u H m n ∧ n ≤ 100 ∧
  ∀ p H' fv, Sm H H' → H p = none → KnownAt H' p l fv → (∀ r ∈ combIx 2 l, 0 ≤ fv r ∧ fv r ≤ 1000000) → Q (.ref p) H'
theorem ok_summed (F : Fun K "_law_summed" "_law_summed" s_law_summed f fd) (T : Txt K mg C) (C__law_twos : Can P w K mg base 1 "_law_twos" s_law_twos ["_law_names_here"] sp_twos)
    (C__law_splits : Can P w K mg base 1 "_law_splits" s_law_splits ["_law_lot", "_law_two"] (sp_splits2 K)) : FnOk P w K mg base CX0 2 f fd ["_law_names_here", "_law_marks"] sp_summed := by
  refine F.ok sc_law_summed (fun vs H Q E h => ?_) (fun cdv A outer s H vs Q E hr h => ?_)
  · obtain ⟨_, _, _, _, rfl, _⟩ := h; rfl
  · obtain ⟨l, u, m, n, rfl, hlot, h7, hM, hn, k⟩ := h
    have hnd := lot_nd hlot
    obtain ⟨hmu, bs, hm, hbl, hbs⟩ := id hM
    refine ⟨_, (pss_one (ps_ret (pe_callTy (call_dictPK K rfl) (by rfl) T.dict (by decide +kernel) (pa_cons (pe_lc (own := [("_law_two", 4)]) rfl sc_law_summed.nd (pi_listK K (pe_can C__law_twos (hr.mono (by decide)) (pa_cons (pv 0) pa_nil))) (blkOk_by (own := [("_law_two", 4)]) (N := N_law_summed) (sc := defScope s_law_summed) (by decide +kernel)) (fun _ _ _ _ _ => (pg_name (i := 4) sc_law_summed.nd rfl (Or.inr rfl) (Or.inl rfl))) (fun _ _ _ _ _ => pts_nil) (fun _ _ _ _ _ => (pe_tup (pa_cons (pv 4) (pa_cons (pe_callB (cr_sumK K rfl) (by rfl) T.sum (by decide +kernel) (pa_cons (pe_lc (own := [("_law_lot", 2), ("_law_size", 3)]) rfl sc_law_summed.nd (pi_listK K (pv 1)) (blkOk_by (own := [("_law_lot", 2), ("_law_size", 3)]) (N := N_law_summed) (sc := sc_summed1) (by decide +kernel)) (fun _ _ _ _ _ => (pg_tup2K K rfl (pgs_cons (pg_name (i := 2) sc_law_summed.nd rfl (Or.inl rfl) (Or.inr rfl)) (pgs_cons (pg_name (i := 3) sc_law_summed.nd rfl (Or.inl rfl) (Or.inr rfl)) pgs_nil)))) (fun _ _ _ _ _ => (pts_one (pt_val (pe_can C__law_splits (hr.mono (by decide)) (pa_cons (pv 2) (pa_cons (pv 4) pa_nil)))))) (fun _ _ _ _ _ => (pv 3))) pa_nil)) pa_nil))))) pa_nil)))), ?_⟩
    refine ⟨_, rfl, l, rfl, h7, fun tw H1 e1 ntw htw => ?_⟩
    refine ⟨tw, rfl, ⟨_, SqL.of htw⟩, fun D hD => ?_⟩
    have h35 := comb7 (r := 2) h7 (by decide)
    refine lcx (M := m0) (walk_list (xs := vtx (combIx 2 l))) hD (fun i L H' => KnGrow m0 D l i L H') KnGrow.zero (fun H' e => SqL.of (Sm.at e htw)) ?_ ?_
    · rintro i x H2 H3 L hi e hl' hz hg ⟨rfl, hx⟩
      obtain ⟨r, hri, rfl⟩ := vtx_get hx
      obtain ⟨x1, x2, rfl, m1, m2⟩ := mem_two (List.mem_of_getElem? hri)
      have e2 : Sm H H3 := e1.trans e
      have hm3 := Sm.at e2 hm
      refine ⟨rfl, yesT ⟨_, rfl, _, rfl, m, rfl, ⟨_, SqL.of hm3⟩, fun D2 hD2 => ?_⟩⟩
      refine lcx (M := m0) (walk_list (xs := bs.map V.ref)) hD2 (fun j L _ => ∃ ns : List Int, L = ns.map V.int ∧ ns.length ≤ j ∧ ∀ n ∈ ns, 0 ≤ n ∧ n ≤ 1000) ⟨[], rfl, Nat.le_refl _, by simp⟩ (fun H' e => SqL.of (Sm.at e hm3)) ?_ ?_
      · rintro j y H4 H5 L2 hj e4 hl2 hz2 ⟨ns, rfl, hns, hnb⟩ ⟨rfl, hy⟩
        have hj : j < (bs.map V.ref).length := hj
        rw [List.length_map, hbl] at hj
        rw [List.getElem?_map] at hy
        obtain ⟨b, hb, rfl⟩ : ∃ b, bs[j]? = some b ∧ y = V.ref b := by
          cases q : bs[j]? with
          | none => rw [q] at hy; cases hy
          | some b => rw [q] at hy; exact ⟨b, rfl, (Option.some.inj hy).symm⟩
        obtain ⟨_, _, q, p, d, _, _, c5, c6, d0, d1⟩ := hbs b (List.mem_of_getElem? hb)
        have e5 := e2.trans e4
        refine ⟨b, _, rfl, SqT.of (Sm.at e5 c5), rfl, _, _, rfl, _, _, rfl, rfl, ?_⟩
        refine ⟨rfl, _, rfl, _, rfl, .inr ⟨q, p, x1, x2, rfl, SqL.of (Sm.at e5 c6), fun rr => ⟨_, rfl, ?_⟩⟩⟩
        cases rr with
        | true =>
          refine iteT ⟨_, rfl, LW.add hD2 (.m0 _) e4 hl2 (.refl _ _) ?_ ⟨ns ++ [d], by rw [List.map_append]; rfl, by rw [List.length_append, List.length_singleton]; omega, fun z hz => ?_⟩⟩
          · rw [List.length_append, List.length_singleton, List.length_map]; omega
          · rcases List.mem_append.mp hz with hz | hz
            · exact hnb z hz
            · rw [List.mem_singleton.mp hz]; exact ⟨d0, d1⟩
        | false => exact iteF (LW.skip hD2 (.m0 _) e4 hl2 (.refl _ _) hz2 ⟨ns, rfl, by omega, hnb⟩)
      · rintro L2 H4 e4 hl2 ⟨ns, rfl, hns, hnb⟩
        rw [List.length_map, hbl] at hns
        obtain ⟨s0, s1⟩ := sum_bound ns hnb
        refine ⟨D2, ns, rfl, SqL.of hl2, sz5 (by show 2 ≤ 1000000; decide), fun b hb => ?_⟩
        have hD4 := Sm.at e4 hl'
        have hbD : b ≠ D := fun z => by rw [z, hD4] at hb; cases hb
        have hlen := hg.len
        have e6 : Sm H3 (upd H4 b (.tup [.str (tx [x1, x2]), .int ns.sum])) := Ext.trans e4 (.new hb)
        exact LW.add hD (.m0 _) e hl' e6 (by rw [List.length_append, List.length_singleton]; omega) (hg.step hnd hri e6 upd_same hbD rfl s0 (by omega))
    · rintro L H2 e hl' hg
      have hg' : KnGrow m0 D l (combIx 2 l).length L H2 := by
        rw [show (vtx (combIx 2 l)).length = (combIx 2 l).length by rw [vtx, List.length_map]] at hg
        exact hg
      obtain ⟨as, fv, rfl, p, em, hf⟩ := hg'.done hnd
      refine ⟨D, as, _, rfl, SqL.of hl', p K, fun q hq => ?_⟩
      rw [em]
      have e3 : Sm H H2 := e1.trans e
      exact k q _ fv (e3.mut (e3.fresh rfl hq)) (e3.fresh rfl hq) upd_same hf
end
end K20
set_option Elab.async false
set_option linter.all false
set_option maxRecDepth 100000
set_option maxHeartbeats 4000000
namespace K20
open PySem PySem.Spec PyProof.Rows L2 Nf
section
theorem Ext.but {M : Mv} {H H' H'' : Hp} {p : Addr} (e : Ext M H H') (h : H p = none) (s : ∀ b, b ≠ p → H'' b = H' b) : Ext M H H'' := fun a => by
  have z := e a
  cases q : M a with
  | none =>
    rw [q] at z
    intro u hu
    rw [s a (ne_of_none hu h)]
    exact z u hu
  | some g =>
    rw [q] at z
    intro u hu k
    rw [s a (ne_of_none hu h)]
    exact z u hu k
theorem PairsAt.upd {M : Mv} {H : Hp} {D d : Addr} {kvs : List (Key × V)} {as : List Addr} {o o2 : HO} (p : PairsAt M H D kvs as) (hd : H d = some o) (hne : ∀ xs, o ≠ .tup xs) : PairsAt M (upd H d o2) D kvs as :=
  ⟨p.1, fun i b kv hb hk => by
    obtain ⟨q1, q2, q3⟩ := p.2 i b kv hb hk
    have : b ≠ d := fun z => by rw [z, hd] at q3; exact hne _ (Option.some.inj q3)
    exact ⟨q1, q2, by rw [upd_ne this]; exact q3⟩⟩
theorem ite_by {c : Bool} {a b : Prop} (h1 : c = true → a) (h2 : c = false → b) : if c = true then a else b := by
  cases c with
  | true => exact h1 rfl
  | false => exact h2 rfl
theorem seq_by {S1 S2 : TS} {D : Ends} {σ : L2.St} {H : Hp} (R : L2.St → Hp → Prop) (h2 : ∀ σ' H', R σ' H' → S2 D σ' H') (h1 : (∀ σ' H', R σ' H' → S2 D σ' H') → tSeq S1 S2 D σ H) : tSeq S1 S2 D σ H := h1 h2
theorem known_nth {fv : List Nat → Int} {ks : List (List Nat)} {i : Nat} {k : Key} {v : V} (h : (knownD fv ks)[i]? = some (k, v)) : ∃ r, ks[i]? = some r ∧ k = Sum.inr (tx r) ∧ v = .int (fv r) := by
  rw [knownD, List.getElem?_map] at h
  cases q : ks[i]? with
  | none => rw [q] at h; cases h
  | some r => rw [q] at h; cases h; exact ⟨r, rfl, rfl, rfl⟩
variable {P : Program} {w : World} {K : PySem.W.Frag} {mg : Str → Option Value} {base : Heap} {C : Addr} {f : Addr} {fd : FuncData}
theorem cutV_vsg (row : List Nat) (lo hi : Option Int) : ∃ p, cutV (vsg row) lo hi = vsg p := by
  unfold cutV
  rw [vsg, ← List.map_drop, ← List.map_take]
  exact ⟨_, rfl⟩
def sp_world : Sp := fun vs H Q _ => ∃ (u : Addr) (a b : Nat), vs = [.ref u, .int a, .int b] ∧ UrnO H u ∧ 2 ≤ a ∧ a ≤ b ∧ b ≤ 7 ∧
  ∀ t H' l g kvs, Ext (mU u) H H' → H t = none → H g = none → H' t = some (.tup [.str (tx l), .ref g]) → H' g = some (.dK kvs) → FarG l kvs → Nm l a b → Q (.ref t) H'
theorem ok_world (F : Fun K "_law_world" "_law_world" s_law_world f fd) (T : Txt K mg C) (C__law_cast : Can P w K mg base 1 "_law_cast" s_law_cast ["_law_urn_here", "_law_size"] sp_cast)
    (C__law_pick : Can P w K mg base 2 "_law_pick" s_law_pick ["_law_urn_here", "_law_items"] (sp_pick K)) (C__law_shuffled : Can P w K mg base 2 "_law_shuffled" s_law_shuffled ["_law_urn_here", "_law_items"] sp_shuffled)
    (C__law_names : Can P w K mg base 3 "_law_names" s_law_names ["_law_urn_here", "_law_least", "_law_most"] sp_names) (C__law_twos : Can P w K mg base 1 "_law_twos" s_law_twos ["_law_names_here"] sp_twos)
    (C__law_both : Can P w K mg base 2 "_law_both" s_law_both ["_law_names_here", "_law_known"] sp_both) (C__law_shortened : Can P w K mg base 1 "_law_shortened" s_law_shortened ["_law_names_here", "_law_far"] sp_shortened)
    (C__law_summed : Can P w K mg base 2 "_law_summed" s_law_summed ["_law_names_here", "_law_marks"] sp_summed) : FnOk P w K mg base CX0 4 f fd ["_law_urn_here", "_law_least", "_law_most"] sp_world := by
  refine F.ok sc_law_world (fun vs H Q E h => ?_) (fun cdv A outer s H vs Q E hr h => ?_)
  · obtain ⟨_, _, _, rfl, _⟩ := h; rfl
  · obtain ⟨u, a, b, rfl, hU, h2, hab, hb, k⟩ := h
    have hu := hu_of hr
    refine ⟨_, (pss_cons (ps_set (i := 3) sc_law_world.nd rfl (Or.inl rfl) (pe_can C__law_names (hr.mono (by decide)) (pa_cons (pv 0) (pa_cons (pv 1) (pa_cons (pv 2) pa_nil)))))
      (pss_cons (ps_asg (pe_tup (pa_cons (pe_can C__law_cast (hr.mono (by decide)) (pa_cons (pv 0) (pa_cons pe_int pa_nil))) (pa_cons (pe_can C__law_pick (hr.mono (by decide)) (pa_cons (pv 0) (pa_cons (pe_lst (pa_cons pe_int (pa_cons pe_int (pa_cons pe_int (pa_cons pe_int (pa_cons pe_int pa_nil)))))) pa_nil))) (pa_cons (pe_can C__law_shuffled (hr.mono (by decide)) (pa_cons (pv 0) (pa_cons (pv 3) pa_nil))) pa_nil)))) (pg_tup3K rfl (pgs_cons (pg_name (i := 4) sc_law_world.nd rfl (Or.inl rfl) (Or.inr rfl)) (pgs_cons (pg_name (i := 5) sc_law_world.nd rfl (Or.inr rfl) (Or.inl rfl)) (pgs_cons (pg_name (i := 6) sc_law_world.nd rfl (Or.inl rfl) (Or.inr rfl)) pgs_nil)))))
      (pss_cons (ps_set (i := 7) sc_law_world.nd rfl (Or.inr rfl) (pe_callTy (call_dictPK K rfl) (by rfl) T.dict (by decide +kernel) (pa_cons (pe_lc (own := [("_law_two", 8)]) rfl sc_law_world.nd (pi_listK K (pe_can C__law_twos (hr.mono (by decide)) (pa_cons (pv 3) pa_nil))) (blkOk_by (own := [("_law_two", 8)]) (N := N_law_world) (sc := defScope s_law_world) (by decide +kernel)) (fun _ _ _ _ _ => (pg_name (i := 8) sc_law_world.nd rfl (Or.inl rfl) (Or.inr rfl))) (fun _ _ _ _ _ => pts_nil) (fun _ _ _ _ _ => (pe_tup (pa_cons (pv 8) (pa_cons (pe_can C__law_cast (hr.mono (by decide)) (pa_cons (pv 0) (pa_cons (pe_op op_add (pv 5) pe_int) pa_nil))) pa_nil))))) pa_nil)))
      (pss_cons (ps_if (pt_cmpR op_eq (pv 4) pe_int (nomark _)) (pss_one (ps_ret (pe_tup (pa_cons (pv 3) (pa_cons (pe_can C__law_shortened (hr.mono (by decide)) (pa_cons (pv 3) (pa_cons (pe_can C__law_both (hr.mono (by decide)) (pa_cons (pv 3) (pa_cons (pv 7) pa_nil))) pa_nil))) pa_nil))))) pss_nil)
      (pss_cons (ps_if (pt_cmpR (op_in_seqK K) (pv 4) (pe_lst (pa_cons pe_int (pa_cons pe_int pa_nil))) rfl) (pss_cons (ps_set (i := 9) sc_law_world.nd rfl (Or.inl rfl) (pe_lst pa_nil))
      (pss_cons (ps_for PassesOwn.never rfl (pi_range1 (by rfl) T.range (pa_cons (pe_op op_add pe_int (pe_can C__law_cast (hr.mono (by decide)) (pa_cons (pv 0) (pa_cons pe_int pa_nil)))) pa_nil)) (pg_name (i := 10) sc_law_world.nd rfl (Or.inl rfl) (Or.inr rfl))
      (pss_cons (ps_set (i := 11) sc_law_world.nd rfl (Or.inl rfl) (pe_can C__law_cast (hr.mono (by decide)) (pa_cons (pv 0) (pa_cons (pe_callB (call_len_seqK K) (by rfl) T.len PySem.boot_len (pa_cons (pv 6) pa_nil)) pa_nil))))
      (pss_cons (ps_set (i := 12) sc_law_world.nd rfl (Or.inl rfl) (pe_op op_add (pe_op op_add (pv 11) pe_int) (pe_ifExp (pt_cmpR op_eq (pv 4) pe_int (nomark _)) (pe_can C__law_cast (hr.mono (by decide)) (pa_cons (pv 0) (pa_cons (pe_op op_sub (pe_callB (call_len_seqK K) (by rfl) T.len PySem.boot_len (pa_cons (pv 6) pa_nil)) (pv 11)) pa_nil))) pe_int)))
      (pss_one (ps_expr (pe_atK K (pe_bm PySem.F.plainAttrs_list PySem.F.slot_list_append PySem.F.type_list_append mt_append (pv 9) (pa_cons (pe_tup (pa_cons (pe_slice (sl_listK K) (pv 6) (po_some (pv 11)) (po_some (pv 12))) (pa_cons (pe_can C__law_cast (hr.mono (by decide)) (pa_cons (pv 0) (pa_cons (pe_op op_add (pv 5) pe_int) pa_nil))) pa_nil))) pa_nil))))))))
      (pss_one (ps_set (i := 7) sc_law_world.nd rfl (Or.inr rfl) (pe_can C__law_summed (hr.mono (by decide)) (pa_cons (pv 3) (pa_cons (pv 9) pa_nil))))))) pss_nil)
      (pss_cons (ps_if (pt_cmpR op_eq (pv 4) pe_int (nomark _)) (pss_one (ps_set (i := 7) sc_law_world.nd rfl (Or.inr rfl) (pe_callTy (call_dictPK K rfl) (by rfl) T.dict (by decide +kernel) (pa_cons (pe_lock (pe_lc (own := [("_law_two", 8)]) rfl sc_law_world.nd (pi_keys (pv 7)) (blkOk_by (own := [("_law_two", 8)]) (N := N_law_world) (sc := defScope s_law_world) (by decide +kernel)) (fun _ _ _ _ _ => (pg_name (i := 8) sc_law_world.nd rfl (Or.inl rfl) (Or.inr rfl))) (fun _ _ _ _ _ => pts_nil) (fun _ _ _ _ _ => (pe_tup (pa_cons (pv 8) (pa_cons (pe_op op_add pe_int (pe_op op_mod (pe_callTy call_int1 (by rfl) T.int (by decide +kernel) (pa_cons (pe_dget hu (pv 7) (pv 8) (fun _ _ => rfl)) pa_nil)) pe_int)) pa_nil)))))) pa_nil)))) pss_nil)
      (pss_cons (ps_if (pt_cmpR op_eq (pv 4) pe_int (nomark _)) (pss_one (ps_set (i := 7) sc_law_world.nd rfl (Or.inr rfl) (pe_callTy (call_dictPK K rfl) (by rfl) T.dict (by decide +kernel) (pa_cons (pe_lock (pe_lc (own := [("_law_two", 8)]) rfl sc_law_world.nd (pi_keys (pv 7)) (blkOk_by (own := [("_law_two", 8)]) (N := N_law_world) (sc := defScope s_law_world) (by decide +kernel)) (fun _ _ _ _ _ => (pg_name (i := 8) sc_law_world.nd rfl (Or.inl rfl) (Or.inr rfl))) (fun _ _ _ _ _ => pts_nil) (fun _ _ _ _ _ => (pe_tup (pa_cons (pv 8) (pa_cons (pe_callB (call_min2 rfl) (by rfl) T.min (by decide +kernel) (pa_cons (pe_op op_pow pe_int pe_int) (pa_cons (pe_op op_mul (pe_dget hu (pv 7) (pv 8) (fun _ _ => rfl)) pe_int) pa_nil))) pa_nil)))))) pa_nil)))) pss_nil)
      (pss_one (ps_ret (pe_tup (pa_cons (pv 3) (pa_cons (pe_can C__law_both (hr.mono (by decide)) (pa_cons (pv 3) (pa_cons (pv 7) pa_nil))) pa_nil)))))))))))), ?_⟩
    refine ⟨_, rfl, _, rfl, _, rfl, u, a, b, rfl, hU, hab, hb, fun l H1 e1 hNm => ?_⟩
    have hlot := hNm.1
    have hnd := lot_nd hlot
    have h7 : l.length ≤ 7 := Nat.le_trans hNm.2.2 hb
    have hl2 : 2 ≤ l.length := Nat.le_trans h2 hNm.2.1
    have h35 := comb7 (r := 2) h7 (by decide)
    refine ⟨_, rfl, u, 6, rfl, hU.ext e1, by decide, by decide, fun way H2 e2 hway => ?_⟩
    refine ⟨_, rfl, sz5 (by show 5 ≤ 1000000; decide), fun a5 h5 => ?_⟩
    have hU2 := (hU.ext e1).ext e2
    have hU3 := hU2.ext (Ext.new (o := .lst [.int 1, .int 2, .int 3, .int 6, .int 9]) h5)
    refine ⟨u, a5, _, rfl, hU3, by show 0 < 5; decide, by show 5 ≤ 1000000; decide, upd_same, hU2.ne h5, fun x H3 e3 hx => ?_⟩
    obtain ⟨tp, rfl, ht0, ht9⟩ : ∃ tp : Nat, x = V.int (tp : Int) ∧ 1 ≤ tp ∧ tp ≤ 9 := by
      simp only [List.mem_cons, List.not_mem_nil, or_false] at hx
      rcases hx with rfl | rfl | rfl | rfl | rfl
      · exact ⟨1, rfl, by decide, by decide⟩
      · exact ⟨2, rfl, by decide, by decide⟩
      · exact ⟨3, rfl, by decide, by decide⟩
      · exact ⟨6, rfl, by decide, by decide⟩
      · exact ⟨9, rfl, by decide, by decide⟩
    have hU4 := hU3.ext e3
    refine ⟨_, rfl, _, rfl, u, l, rfl, hU4, by omega, fun rw H4 row e4 nrw hrw hperm => ?_⟩
    have e03 : Ext (mU u) H H3 := ((e1.trans e2).trans (.new h5)).trans e3
    have hrwu := hU4.ne nrw
    refine ⟨sz5 (by show 3 ≤ 1000000; decide), fun t3 ht3 => ?_⟩
    refine ⟨t3, _, rfl, SqT.of upd_same, rfl, _, _, rfl, _, _, rfl, _, _, rfl, rfl, ?_⟩
    have e05 : Ext (mU u) H (upd H4 t3 (.tup [.int way, .int tp, .ref rw])) := (e03.trans e4).trans (.new ht3)
    have hrw5 : (upd H4 t3 (.tup [.int way, .int tp, .ref rw])) rw = some (.lst (vsg row)) := (Ext.new (M := mU u) ht3).at (mU_ne hrwu) hrw
    have hrl : row.length = l.length := hperm.length_eq
    refine ⟨_, rfl, l, rfl, h7, fun tw H6 e6 ntw htw => ?_⟩
    have hU5 := hU.ext e05
    have htwu := hU5.ne ntw
    have e06 := e05.trans (Sm.ext e6)
    have hU6 := hU.ext e06
    have hrw6 := Sm.at e6 hrw5
    refine ⟨tw, rfl, ⟨_, SqL.of htw⟩, fun D hD => ?_⟩
    have hDu := hU6.ne hD
    refine lcx (M := mU u) (walk_list (xs := vtx (combIx 2 l))) hD (fun i L H' => KnGrow (mU u) D l i L H') KnGrow.zero (fun H' e => SqL.of (e.at (mU_ne htwu) htw)) ?_ ?_
    · rintro i x H7 H8 L hi e hl' hz hg ⟨rfl, hx⟩
      obtain ⟨r, hri, rfl⟩ := vtx_get hx
      have hU7 := hU6.ext e
      refine ⟨rfl, yesT ⟨_, rfl, _, rfl, _, rfl, _, _, rfl, rfl, u, tp + 1, ?_, hU7, by omega, by omega, fun v H9 e9 hv => ?_⟩⟩
      · exact congrArg (fun x => [V.ref u, V.int x]) (by omega)
      refine ⟨sz5 (by show 2 ≤ 1000000; decide), fun q hq => ?_⟩
      have hD9 := e9.at (mU_ne hDu) hl'
      have hqD : q ≠ D := fun z => by rw [z, hD9] at hq; cases hq
      have hqu := (hU7.ext e9).ne hq
      have hlen := hg.len
      have e10 : Ext (mU u) H8 (upd H9 q (.tup [.str (tx r), .int v])) := e9.trans (.new hq)
      exact LW.add hD hU6.live e hl' e10 (by rw [List.length_append, List.length_singleton]; omega) (hg.step hnd hri e10 upd_same hqD (mU_ne hqu) (by omega) (by omega))
    · rintro L H7 e hl' hg
      have hg' : KnGrow (mU u) D l (combIx 2 l).length L H7 := by
        rw [show (vtx (combIx 2 l)).length = (combIx 2 l).length by rw [vtx, List.length_map]] at hg
        exact hg
      obtain ⟨as, fv, rfl, p, em, hf⟩ := hg'.done hnd
      refine ⟨D, as, _, rfl, SqL.of hl', p K, fun kd hkd => ?_⟩
      rw [em]
      have e07 := e06.trans e
      have nkd : H kd = none := e07.fresh (mU_ne ((hU.ext e07).ne hkd)) hkd
      have hrw7 := e.at (mU_ne hrwu) hrw6
      -- what holds from here on
      let R : L2.St → Hp → Prop := fun σ' H' => Ext (mU u) H H' ∧ H' rw = some (.lst (vsg row)) ∧ ∃ (kd : Addr) (fv : List Nat → Int) (y9 y10 y11 y12 : Option V), H kd = none ∧ KnownAt H' kd l fv ∧ (∀ r ∈ combIx 2 l, 0 ≤ fv r ∧ fv r ≤ 1000000) ∧
        σ' = [some (.ref u), some (.int a), some (.int b), some (.str (tx l)), some (.int way), some (.int tp), some (.ref rw), some (.ref kd), none, y9, y10, y11, y12]
      have hR0 : R [some (.ref u), some (.int a), some (.int b), some (.str (tx l)), some (.int way), some (.int tp), some (.ref rw), some (.ref kd), none, none, none, none, none] (upd H7 kd (.dK (knownD fv (combIx 2 l)))) :=
        ⟨e07.mut nkd, (Ext.new (M := mU u) hkd).at (mU_ne hrwu) hrw7, kd, fv, _, _, _, _, nkd, upd_same, hf, rfl⟩
      dsimp only [gName]
      refine seq_by R ?_ (fun rest => ?_)
      · intro σ' H' hR
        show tSeq (tIfS _ _ _) _ _ _ _
        refine seq_by R ?_ (fun rest => ?_)
        · intro σ' H' hR
          show tSeq (tIfS _ _ _) _ _ _ _
          refine seq_by R ?_ (fun rest => ?_)
          · intro σ' H' hR
            show tSeq (tIfS _ _ _) _ _ _ _
            refine seq_by R ?_ (fun rest => ?_)
            · rintro σ' H' ⟨e, _, kd, fv, y9, y10, y11, y12, nkd, hk, hf, rfl⟩
              refine ⟨_, rfl, _, rfl, _, rfl, l, kd, fv, rfl, h7, hk, hf, fun g H8 kvs e8 ng hgk hG => ?_⟩
              refine ⟨sz5 (by show 2 ≤ 1000000; decide), fun t ht => ?_⟩
              have e9 := e.trans (Sm.ext e8)
              have ngH : H g = none := e.fresh (mU_ne ((hU.ext e).ne ng)) ng
              have ntH : H t = none := e9.fresh (mU_ne ((hU.ext e9).ne ht)) ht
              have hgt : g ≠ t := fun z => by rw [z, ht] at hgk; cases hgk
              exact k t _ l g kvs (e9.mut ntH) ntH ngH upd_same (by rw [upd_ne hgt]; exact hgk) hG hNm
            · obtain ⟨e, hrwx, kd, fv, y9, y10, y11, y12, nkd, hk, hf, rfl⟩ := hR
              refine ⟨_, rfl, rfl, _, rfl, ite_by (fun _ => ?_) (fun _ => rest _ _ ⟨e, hrwx, kd, fv, y9, y10, y11, y12, nkd, hk, hf, rfl⟩)⟩
              have hrk : rw ≠ kd := fun z => by rw [z, show H' kd = _ from hk] at hrwx; cases hrwx
              refine ⟨kd, _, hk, trivial, fun od => ⟨_, rfl, kd, od, rfl, .inl ⟨_, upd_same, fun D hD => ?_⟩⟩⟩
              have hDk : D ≠ kd := fun z => by rw [z, upd_same] at hD; cases hD
              have e1 : Ext (mU u) H (upd H' kd (.frz od (.dK (knownD fv (combIx 2 l))))) := e.mut nkd
              refine lcx (M := m0) (walk_keys (kvs := knownD fv (combIx 2 l))) hD (fun i L H' => KnGrow m0 D l i L H') KnGrow.zero (fun H' e => Sm.at e upd_same) ?_ ?_
              · rintro i x H8 H9 L hi e8 hl' hz hg ⟨rfl, ky, vv, hkv, rfl⟩
                obtain ⟨r, hri, rfl, rfl⟩ := known_nth hkv
                have hrm := List.mem_of_getElem? hri
                have hb := hf r hrm
                have hgt : DGet H9 kd (kV (Sum.inr (tx r))) (some (V.int (fv r))) := .inl ⟨_, _, .inr ⟨od, Sm.at e8 upd_same⟩, rfl, (known_get fv _ _ hrm).symm⟩
                have hlen := hg.len
                refine ⟨rfl, yesT ⟨_, rfl, _, _, rfl, rfl, ⟨by decide, by decide, by decide⟩, _, rfl, _, rfl, kd, _, rfl, hgt, _, _, rfl, rfl, .inr ⟨by decide, by decide⟩, _, _, rfl, sz5 (by show 2 ≤ 1000000; decide), fun q hq => ?_⟩⟩
                have hqD : q ≠ D := fun z => by rw [z, hl'] at hq; cases hq
                exact LW.add hD (.m0 _) e8 hl' (.new hq) (by rw [List.length_append, List.length_singleton]; omega) (hg.step hnd hri (.new hq) upd_same hqD rfl (by rw [show (10 : Int) ^ (6 : Int).toNat = 1000000 by decide]; split <;> omega) (by rw [show (10 : Int) ^ (6 : Int).toNat = 1000000 by decide]; split <;> omega))
              · rintro L H8 e8 hl' hg
                have hg' : KnGrow m0 D l (combIx 2 l).length L H8 := by
                  rw [show (knownD fv (combIx 2 l)).length = (combIx 2 l).length by rw [knownD, List.length_map]] at hg
                  exact hg
                have hk8 := Sm.at e8 (upd_same (H := H') (a := kd) (o := HO.frz od (.dK (knownD fv (combIx 2 l)))))
                obtain ⟨as, fv2, rfl, p, hf2⟩ := hg'
                rw [List.take_length] at p hf2
                have p2 := p.upd (o2 := .dK (knownD fv (combIx 2 l))) hk8 (fun xs z => by cases z)
                refine ⟨hk8, D, as, _, rfl, SqL.of (by rw [upd_ne hDk]; exact hl'), p2.paired, fun kd2 hkd2 => ?_⟩
                rw [show mergeK [] (knownD fv2 (combIx 2 l)) = knownD fv2 (combIx 2 l) from known_merge fv2 _ [] (combIx_nd 2 l hnd)]
                have e9 : Ext (mU u) H (upd H8 kd (.dK (knownD fv (combIx 2 l)))) := (e1.trans (Sm.ext e8)).mut nkd
                have nk2 : H kd2 = none := e9.fresh (mU_ne ((hU.ext e9).ne hkd2)) hkd2
                have hrw8 : (upd H8 kd (.dK (knownD fv (combIx 2 l)))) rw = some (.lst (vsg row)) := by
                  rw [upd_ne hrk]
                  exact Sm.at e8 (by rw [upd_ne hrk]; exact hrwx)
                refine rest _ _ ⟨e9.mut nk2, (Ext.new (M := mU u) hkd2).at (mU_ne hrwu) hrw8, kd2, fv2, y9, y10, y11, y12, nk2, upd_same, hf2, rfl⟩
          · obtain ⟨e, hrwx, kd, fv, y9, y10, y11, y12, nkd, hk, hf, rfl⟩ := hR
            refine ⟨_, rfl, rfl, _, rfl, ite_by (fun _ => ?_) (fun _ => rest _ _ ⟨e, hrwx, kd, fv, y9, y10, y11, y12, nkd, hk, hf, rfl⟩)⟩
            have hrk : rw ≠ kd := fun z => by rw [z, show H' kd = _ from hk] at hrwx; cases hrwx
            refine ⟨kd, _, hk, trivial, fun od => ⟨_, rfl, kd, od, rfl, .inl ⟨_, upd_same, fun D hD => ?_⟩⟩⟩
            have hDk : D ≠ kd := fun z => by rw [z, upd_same] at hD; cases hD
            have e1 : Ext (mU u) H (upd H' kd (.frz od (.dK (knownD fv (combIx 2 l))))) := e.mut nkd
            refine lcx (M := m0) (walk_keys (kvs := knownD fv (combIx 2 l))) hD (fun i L H' => KnGrow m0 D l i L H') KnGrow.zero (fun H' e => Sm.at e upd_same) ?_ ?_
            · rintro i x H8 H9 L hi e8 hl' hz hg ⟨rfl, ky, vv, hkv, rfl⟩
              obtain ⟨r, hri, rfl, rfl⟩ := known_nth hkv
              have hrm := List.mem_of_getElem? hri
              have hb := hf r hrm
              have hgt : DGet H9 kd (kV (Sum.inr (tx r))) (some (V.int (fv r))) := .inl ⟨_, _, .inr ⟨od, Sm.at e8 upd_same⟩, rfl, (known_get fv _ _ hrm).symm⟩
              have hlen := hg.len
              refine ⟨rfl, yesT ⟨_, rfl, _, rfl, _, rfl, kd, _, rfl, hgt, .inl ⟨_, rfl, _, _, rfl, rfl, (show (0 : Int) < 2 by decide), _, _, rfl, rfl, sz5 (by show 2 ≤ 1000000; decide), fun q hq => ?_⟩⟩⟩
              have hqD : q ≠ D := fun z => by rw [z, hl'] at hq; cases hq
              exact LW.add hD (.m0 _) e8 hl' (.new hq) (by rw [List.length_append, List.length_singleton]; omega) (hg.step hnd hri (.new hq) upd_same hqD rfl (by omega) (by omega))
            · rintro L H8 e8 hl' hg
              have hg' : KnGrow m0 D l (combIx 2 l).length L H8 := by
                rw [show (knownD fv (combIx 2 l)).length = (combIx 2 l).length by rw [knownD, List.length_map]] at hg
                exact hg
              have hk8 := Sm.at e8 (upd_same (H := H') (a := kd) (o := HO.frz od (.dK (knownD fv (combIx 2 l)))))
              obtain ⟨as, fv2, rfl, p, hf2⟩ := hg'
              rw [List.take_length] at p hf2
              have p2 := p.upd (o2 := .dK (knownD fv (combIx 2 l))) hk8 (fun xs z => by cases z)
              refine ⟨hk8, D, as, _, rfl, SqL.of (by rw [upd_ne hDk]; exact hl'), p2.paired, fun kd2 hkd2 => ?_⟩
              rw [show mergeK [] (knownD fv2 (combIx 2 l)) = knownD fv2 (combIx 2 l) from known_merge fv2 _ [] (combIx_nd 2 l hnd)]
              have e9 : Ext (mU u) H (upd H8 kd (.dK (knownD fv (combIx 2 l)))) := (e1.trans (Sm.ext e8)).mut nkd
              have nk2 : H kd2 = none := e9.fresh (mU_ne ((hU.ext e9).ne hkd2)) hkd2
              have hrw8 : (upd H8 kd (.dK (knownD fv (combIx 2 l)))) rw = some (.lst (vsg row)) := by
                rw [upd_ne hrk]
                exact Sm.at e8 (by rw [upd_ne hrk]; exact hrwx)
              refine rest _ _ ⟨e9.mut nk2, (Ext.new (M := mU u) hkd2).at (mU_ne hrwu) hrw8, kd2, fv2, y9, y10, y11, y12, nk2, upd_same, hf2, rfl⟩
        · obtain ⟨e, hrwx, kd, fv, y9, y10, y11, y12, nkd, hk, hf, rfl⟩ := hR
          refine ⟨_, rfl, sz5 (by show 2 ≤ 1000000; decide), fun p2 hp2 => ⟨p2, _, rfl, .inl (SqL.of upd_same), rfl, rfl, _, rfl, ite_by (fun _ => ?_) (fun _ => ?_)⟩⟩
          · have e1 : Ext (mU u) H (upd H' p2 (.lst [.int 2, .int 3])) := e.trans (.new hp2)
            have hrw1 : (upd H' p2 (.lst [.int 2, .int 3])) rw = some (.lst (vsg row)) := (Ext.new (M := mU u) hp2).at (mU_ne hrwu) hrwx
            refine ⟨sz5 (by show 0 ≤ 1000000; decide), fun mk hmk => ?_⟩
            have e2 := e1.trans (Ext.new (M := mU u) (o := .lst []) hmk)
            have hU9 := hU.ext e2
            have hmu := (hU.ext e1).ne hmk
            have nmk : H mk = none := e1.fresh (mU_ne hmu) hmk
            have hrw2 := (Ext.new (M := mU u) (o := .lst []) hmk).at (mU_ne hrwu) hrw1
            have hrwm : rw ≠ mk := fun z => by rw [← z, hrw1] at hmk; cases hmk
            refine ⟨_, rfl, u, 5, rfl, hU9, by decide, by decide, fun v H9 e9 hv => ⟨_, _, rfl, rfl, _, rfl, by omega, by omega, ?_⟩⟩
            obtain ⟨cnt, hcnt, ecnt⟩ : ∃ cnt : Nat, cnt ≤ 5 ∧ ((1 : Int) + (v : Int)).toNat = cnt := ⟨_, by omega, rfl⟩
            rw [ecnt]
            refine for_it walk_range (fun i σ H' => Ext (mU u) H H' ∧ H' rw = some (.lst (vsg row)) ∧ MarksAt u H' mk i ∧ ∃ y10 y11 y12, σ = [some (.ref u), some (.int a), some (.int b), some (.str (tx l)), some (.int way), some (.int tp), some (.ref rw), some (.ref kd), none, some (.ref mk), y10, y11, y12])
              ⟨e2.trans e9, e9.at (mU_ne hrwu) hrw2, MarksAt.ext ⟨hmu, [], upd_same, rfl, by simp⟩ e9, _, _, _, rfl⟩ (fun _ _ _ _ _ => trivial) ?_ ?_
            · rintro i x σ H10 H11 hi ⟨e10, hr10, hM10, z10, z11, z12, rfl⟩ ⟨rfl, hx⟩
              have hi : i < cnt := hi
              have hUa := hU.ext e10
              refine ⟨_, rfl, _, rfl, rw, _, rfl, .inl (SqL.of hr10), u, row.length, by rw [vsg, List.length_map]; rfl, hUa, by omega, by omega, fun bg H12 e12 hbg => ?_⟩
              have e012 := e10.trans e12
              have hUb := hU.ext e012
              have hr12 := e12.at (mU_ne hrwu) hr10
              have hM12 := hM10.ext e12
              dsimp only [gName]
              refine seq_by (fun σ' H' => Ext (mU u) H H' ∧ H' rw = some (.lst (vsg row)) ∧ MarksAt u H' mk i ∧ ∃ (y10 : Option V) (en : Int), σ' = [some (.ref u), some (.int a), some (.int b), some (.str (tx l)), some (.int way), some (.int tp), some (.ref rw), some (.ref kd), none, some (.ref mk), y10, some (.int bg), some (.int en)]) ?_ (fun rest2 => ?_)
              · rintro σ' H13 ⟨e13, hr13, hM13, y10, en, rfl⟩
                obtain ⟨_, bs, hmk13, hbl, _⟩ := id hM13
                refine ⟨_, rfl, .inl ⟨rfl, _, SqL.of hmk13⟩, ?_⟩
                refine ⟨_, rfl, _, rfl, _, rfl, _, rfl, _, rfl, rw, _, rfl, SqL.of hr13, fun q hq => ?_⟩
                obtain ⟨pp, epp⟩ := cutV_vsg row (some (bg : Int)) (some en)
                rw [epp]
                have hUc := hU.ext e13
                have hqu := hUc.ne hq
                have hqm : q ≠ mk := fun z => by rw [z, hmk13] at hq; cases hq
                have eq13 : Ext (mU u) H13 (upd H13 q (.lst (vsg pp))) := .new hq
                refine ⟨_, rfl, _, rfl, _, _, rfl, rfl, u, tp + 1, ?_, hUc.ext eq13, by omega, by omega, fun sz H14 e14 hsz => ?_⟩
                · exact congrArg (fun x => [V.ref u, V.int x]) (by omega)
                refine ⟨sz5 (by show 2 ≤ 1000000; decide), fun bb hbb => ?_⟩
                have hq14 := e14.at (mU_ne hqu) upd_same
                have hmk14 := (eq13.trans e14).at (mU_ne hmu) hmk13
                have hbu := ((hUc.ext eq13).ext e14).ne hbb
                have hbm : bb ≠ mk := fun z => by rw [z, hmk14] at hbb; cases hbb
                have hqb : q ≠ bb := fun z => by rw [← z, hq14] at hbb; cases hbb
                have e15 : Ext (mU u) H13 (upd H14 bb (.tup [.ref q, .int sz])) := (eq13.trans e14).trans (.new hbb)
                obtain ⟨xs, hxs, hxl, hMn⟩ := hM13.add (d := (sz : Int)) e15 upd_same (by rw [upd_ne hqb]; exact hq14) hbu hbm hqu hqm (by omega) (by omega)
                refine ⟨mk, xs, _, rfl, rfl, hxs, by rw [hxl, sizeLine_eq]; omega, ?_⟩
                refine ⟨(e13.trans e15).mut nmk, ?_, hMn, _, _, _, rfl⟩
                rw [upd_ne hrwm]
                exact e15.at (mU_ne hrwu) hr13
              · refine ⟨_, rfl, _, _, rfl, rfl, _, rfl, rfl, _, rfl, ite_by (fun _ => ?_) (fun _ => ?_)⟩
                · refine ⟨_, rfl, _, rfl, rw, _, rfl, .inl (SqL.of hr12), _, rfl, _, _, rfl, rfl, u, row.length - bg, ?_, hUb, by omega, by omega, fun v3 H13 e13 hv3 => ⟨_, _, rfl, rfl, ?_⟩⟩
                  · rw [vsg, List.length_map]
                    exact congrArg (fun x => [V.ref u, V.int x]) (by omega)
                  · exact rest2 _ _ ⟨e012.trans e13, e13.at (mU_ne hrwu) hr12, hM12.ext e13, _, _, rfl⟩
                · exact ⟨_, _, rfl, rfl, rest2 _ _ ⟨e012, hr12, hM12, _, _, rfl⟩⟩
            · rintro σ H10 ⟨e10, hr10, hM10, z10, z11, z12, rfl⟩
              refine ⟨_, rfl, _, rfl, l, u, mk, cnt, rfl, hlot, h7, hM10, by omega, fun kd2 H11 fv2 e11 nkd2 hk2 hf2 => ?_⟩
              exact rest _ _ ⟨e10.trans (Sm.ext e11), Sm.at e11 hr10, kd2, fv2, _, _, _, _, e10.fresh (mU_ne ((hU.ext e10).ne nkd2)) nkd2, hk2, hf2, rfl⟩
          · exact rest _ _ ⟨e.trans (.new hp2), (Ext.new (M := mU u) hp2).at (mU_ne hrwu) hrwx, kd, fv, y9, y10, y11, y12, nkd, Sm.at (.new hp2) hk, hf, rfl⟩
      · refine ⟨_, rfl, rfl, _, rfl, ite_by (fun _ => ?_) (fun _ => rest _ _ hR0)⟩
        refine ⟨_, rfl, _, rfl, _, rfl, _, rfl, l, kd, fv, rfl, h7, upd_same, hf, fun g H8 kvs e8 ng hgk hG => ?_⟩
        have e0 := hR0.1
        have ngH : H g = none := e0.fresh (mU_ne ((hU.ext e0).ne ng)) ng
        refine ⟨l, g, kvs, rfl, h7, hgk, hG, fun H9 kvs' hs hgk' hG' => ?_⟩
        refine ⟨sz5 (by show 2 ≤ 1000000; decide), fun t ht => ?_⟩
        have e9 : Ext (mU u) H H9 := Ext.but (e0.trans (Sm.ext e8)) ngH hs
        have ntH : H t = none := e9.fresh (mU_ne ((hU.ext e9).ne ht)) ht
        have hgt : g ≠ t := fun z => by rw [z, ht] at hgk'; cases hgk'
        exact k t _ l g kvs' (e9.mut ntH) ntH ngH upd_same (by rw [upd_ne hgt]; exact hgk') hG' hNm
end
end K20
set_option Elab.async false
set_option linter.all false
set_option maxRecDepth 100000
set_option maxHeartbeats 4000000
namespace K20
open PySem PySem.Spec PyProof.Rows L2 Nf
section
/-! ### fours -/
def fourStep (acc : List (List Nat)) (c : Nat) : List (List Nat) := acc ++ (acc.filter fun x => decide (x.length < 4)).map fun x => x ++ [c]
def fourT (l : List Nat) : List (List Nat) := l.foldl fourStep [[]]
def fourL (l : List Nat) : List (List Nat) := (fourT l).filter fun x => decide (x.length = 4)
theorem fourT_map (f : Nat → Nat) : ∀ (l : List Nat) (acc : List (List Nat)), (l.map f).foldl fourStep (acc.map (·.map f)) = (l.foldl fourStep acc).map (·.map f)
  | [], acc => rfl
  | c :: l, acc => by
    rw [List.map_cons, List.foldl_cons, List.foldl_cons, ← fourT_map f l]
    congr 1
    simp [fourStep, List.map_map, List.filter_map, Function.comp_def]
theorem four_all : ((List.range 8).all fun n => (fourL (List.range n)).isPerm (combIx 4 (List.range n)) && decide ((fourT (List.range n)).length < 100)) = true := by decide +kernel
theorem fourT_eq (l : List Nat) : fourT l = (fourT (List.range l.length)).map (·.map fun i => l.getD i 0) := by
  have := fourT_map (fun i => l.getD i 0) (List.range l.length) [[]]
  rw [range_map] at this
  exact this
theorem four_comb {l : List Nat} (h : l.length ≤ 7) : (fourL l).Perm (combIx 4 l) := by
  have e1 : fourL l = (fourL (List.range l.length)).map (·.map fun i => l.getD i 0) := by
    unfold fourL
    rw [fourT_eq, List.filter_map]
    simp [Function.comp_def]
  have q := List.all_eq_true.mp four_all l.length (List.mem_range.mpr (by omega))
  rw [Bool.and_eq_true, List.isPerm_iff] at q
  rw [e1, ← comb_rows 4 l]
  exact q.1.map _
theorem fourT_small {l : List Nat} (h : l.length ≤ 7) : (fourT l).length < 100 := by
  have q := List.all_eq_true.mp four_all l.length (List.mem_range.mpr (by omega))
  rw [Bool.and_eq_true, decide_eq_true_iff] at q
  rw [fourT_eq, List.length_map]
  exact q.2
theorem four_snoc {l : List Nat} {i c : Nat} (h : l[i]? = some c) : fourT (l.take (i + 1)) = fourStep (fourT (l.take i)) c := by
  rw [take_snoc h, fourT, List.foldl_append]; rfl
theorem four_len {n : Nat} : ∀ (l : List Nat) (acc : List (List Nat)), (∀ x ∈ acc, x.length ≤ n) → ∀ x ∈ l.foldl fourStep acc, x.length ≤ n + l.length
  | [], acc, h => h
  | c :: l, acc, h => by
    have := four_len (n := n + 1) l (fourStep acc c) (fun x hx => by
      unfold fourStep at hx
      simp only [List.mem_append, List.mem_map] at hx
      rcases hx with hx | ⟨y, hy, rfl⟩
      · exact Nat.le_succ_of_le (h x hx)
      · rw [List.length_append, List.length_singleton]; exact Nat.succ_le_succ (h y (List.mem_filter.mp hy).1))
    intro x hx
    have := this x hx
    rw [List.length_cons]; omega
/-! ### hits -/
def matesM (p four : List Nat) : List Nat := [1, 2, 3].filter fun k => decide (four.getD k 0 ∈ p) == decide (four.getD 0 0 ∈ p)
def hitM (p four : List Nat) : Nat := if (matesM p four).length = 1 then (matesM p four).headD 0 else 0
def gM (four : List Nat) (h : Nat) : List Nat := if h = 0 then [] else [four.getD h 0]
theorem hit_partner (p : List Nat) (x0 x1 x2 x3 : Nat) : partnerM p [x0, x1, x2, x3] = gM [x0, x1, x2, x3] (hitM p [x0, x1, x2, x3]) ∧ hitM p [x0, x1, x2, x3] ≤ 3 := by
  by_cases h0 : x0 ∈ p <;> by_cases h1 : x1 ∈ p <;> by_cases h2 : x2 ∈ p <;> by_cases h3 : x3 ∈ p <;> simp [partnerM, hitM, gM, besideM, matesM, isPartedM, h0, h1, h2, h3]
theorem three_perm {h1 h2 h3 : Nat} (b1 : h1 ≤ 3) (b2 : h2 ≤ 3) (b3 : h3 ≤ 3) (m1 : 1 ∈ [h1, h2, h3]) (m2 : 2 ∈ [h1, h2, h3]) (m3 : 3 ∈ [h1, h2, h3]) : [h1, h2, h3].Perm [1, 2, 3] := by
  have h : ((List.range 4).all fun a => (List.range 4).all fun b => (List.range 4).all fun c => !([a, b, c].contains 1 && [a, b, c].contains 2 && [a, b, c].contains 3) || [a, b, c].isPerm [1, 2, 3]) = true := by decide +kernel
  have q := List.all_eq_true.mp (List.all_eq_true.mp (List.all_eq_true.mp h h1 (List.mem_range.mpr (by omega))) h2 (List.mem_range.mpr (by omega))) h3 (List.mem_range.mpr (by omega))
  rw [List.contains_iff_mem.mpr m1, List.contains_iff_mem.mpr m2, List.contains_iff_mem.mpr m3] at q
  exact List.isPerm_iff.mp q
theorem hits_clash {p q r : List Nat} {x0 x1 x2 x3 : Nat} {ns : List Int} (a1 : x1 < x2) (a2 : x2 < x3) (hp : ns.Perm ([p, q, r].map fun s => (hitM s [x0, x1, x2, x3] : Int))) (hs : ns.Pairwise (· ≤ ·)) :
    decide (ns = [1, 2, 3]) = clashB [p, q, r] [x0, x1, x2, x3] := by
  obtain ⟨e1, b1⟩ := hit_partner p x0 x1 x2 x3
  obtain ⟨e2, b2⟩ := hit_partner q x0 x1 x2 x3
  obtain ⟨e3, b3⟩ := hit_partner r x0 x1 x2 x3
  unfold clashB
  refine decide_eq_decide.mpr ?_
  rw [List.map_cons, List.map_cons, List.map_cons, List.map_nil] at hp ⊢
  rw [e1, e2, e3]
  generalize hitM p [x0, x1, x2, x3] = h1 at *
  generalize hitM q [x0, x1, x2, x3] = h2 at *
  generalize hitM r [x0, x1, x2, x3] = h3 at *
  have tgt : (([x0, x1, x2, x3].drop 1).map fun c => [c]) = [1, 2, 3].map (gM [x0, x1, x2, x3]) := rfl
  rw [tgt]
  constructor
  · rintro rfl
    have mem : ∀ k : Nat, (k : Int) ∈ ([1, 2, 3] : List Int) → k ∈ [h1, h2, h3] := fun k hk => by
      have := hp.mem_iff.mp hk
      simp only [List.mem_cons, List.not_mem_nil, or_false] at this ⊢
      omega
    have pm := three_perm b1 b2 b3 (mem 1 (by decide)) (mem 2 (by decide)) (mem 3 (by decide))
    refine (srt_unique (pm.map (gM [x0, x1, x2, x3])).symm ?_).symm
    show [[x1], [x2], [x3]].Pairwise fun a b => leB a b = true
    simp [leB, ltCps]
    omega
  · intro e
    have pe : ([1, 2, 3].map (gM [x0, x1, x2, x3])).Perm [gM [x0, x1, x2, x3] h1, gM [x0, x1, x2, x3] h2, gM [x0, x1, x2, x3] h3] := by
      rw [← e]; exact srt_perm _
    have ginj : ∀ k h : Nat, h ≤ 3 → k ∈ [1, 2, 3] → gM [x0, x1, x2, x3] k = gM [x0, x1, x2, x3] h → k = h := by
      intro k h hh hk hg
      simp only [List.mem_cons, List.not_mem_nil, or_false] at hk
      have h4 : h = 0 ∨ h = 1 ∨ h = 2 ∨ h = 3 := by omega
      rcases hk with rfl | rfl | rfl <;> rcases h4 with rfl | rfl | rfl | rfl <;> simp [gM] at hg ⊢ <;> omega
    have mem : ∀ k : Nat, k ∈ [1, 2, 3] → k ∈ [h1, h2, h3] := fun k hk => by
      have := pe.mem_iff.mp (List.mem_map_of_mem (f := gM [x0, x1, x2, x3]) hk)
      simp only [List.mem_cons, List.not_mem_nil, or_false] at this ⊢
      rcases this with q | q | q
      · exact .inl (ginj k h1 b1 hk q)
      · exact .inr (.inl (ginj k h2 b2 hk q))
      · exact .inr (.inr (ginj k h3 b3 hk q))
    have pm := three_perm b1 b2 b3 (mem 1 (by decide)) (mem 2 (by decide)) (mem 3 (by decide))
    have pn : ns.Perm [1, 2, 3] := hp.trans (pm.map fun k : Nat => (k : Int))
    exact List.Perm.eq_of_pairwise (fun a b _ _ h1 h2 => Int.le_antisymm h1 h2) hs (by decide) pn
theorem comb_rise : ∀ (r : Nat) (l : List Nat), l.Pairwise (· < ·) → ∀ x ∈ combIx r l, x.Pairwise (· < ·)
  | 0, l, _, x, hx => by
    have : x = [] := by simpa [combIx] using hx
    rw [this]; exact List.Pairwise.nil
  | r + 1, [], _, x, hx => by simp [combIx] at hx
  | r + 1, a :: l, h, x, hx => by
    rw [List.pairwise_cons] at h
    rw [combIx, List.mem_append] at hx
    rcases hx with hx | hx
    · obtain ⟨y, hy, rfl⟩ := List.mem_map.mp hx
      exact List.pairwise_cons.mpr ⟨fun b hb => h.1 b (combIx_mem _ _ _ hy b hb), comb_rise r l h.2 y hy⟩
    · exact comb_rise (r + 1) l h.2 x hx
theorem lot_rise {l : List Nat} (h : isLotM l lettersL = true) : l.Pairwise (· < ·) := by
  rw [of_decide_eq_true h]
  exact letters_rise.sublist List.filter_sublist
def dint (ns : List Int) : List PyData := ns.map fun n => .int n
theorem eqv_int : ∀ ns ms : List Int, PyData.eqvAll (dint ns) (dint ms) = decide (ns = ms)
  | [], [] => by simp [dint, PyData.eqvAll]
  | [], m :: ms => by simp [dint, PyData.eqvAll]
  | l :: ls, [] => by simp [dint, PyData.eqvAll]
  | l :: ls, m :: ms => by
    have ih := eqv_int ls ms
    show PyData.eqvAll (.int l :: dint ls) (.int m :: dint ms) = _
    rw [PyData.eqvAll, ih, PyData.eqv]
    by_cases h : l = m
    · subst h; simp
    · simp [h]
theorem dpAll_int {K : PySem.W.Frag} {H : Hp} : ∀ ns : List Int, DpAll K H (ns.map V.int) (dint ns)
  | [] => .nil
  | l :: ls => .cons (.int _) (dpAll_int ls)
theorem shaped_int (ns : List Int) : SeqAt.shaped (.list (dint ns)) = true := by
  have h1 : ∀ ls : List Int, PyData.canLayAll0 (dint ls) = true ∧ PyData.depthAll (dint ls) = 0 := by
    intro ls
    induction ls with
    | nil => exact ⟨rfl, rfl⟩
    | cons l ls ih =>
      constructor
      · show (PyData.canLay0 (.int l) && PyData.canLayAll0 (dint ls)) = true
        rw [ih.1]; rfl
      · show max 0 (PyData.depthAll (dint ls)) = 0
        rw [ih.2]; rfl
  obtain ⟨a, b⟩ := h1 ns
  unfold SeqAt.shaped
  have c : PyData.canLay0 (.list (dint ns)) = true := a
  have d : PyData.depth (.list (dint ns)) = 1 := by show PyData.depthAll (dint ns) + 1 = 1; rw [b]
  rw [c, d]; rfl
end
end K20
set_option Elab.async false
set_option linter.all false
set_option maxRecDepth 100000
set_option maxHeartbeats 4000000
namespace K20
open PySem PySem.Spec PyProof.Rows L2 Nf
section
variable {P : Program} {w : World} {K : PySem.W.Frag} {mg : Str → Option Value} {base : Heap} {C : Addr} {f : Addr} {fd : FuncData}
theorem foldl_mono4 : ∀ (l : List Nat) (acc : List (List Nat)), acc.length ≤ (l.foldl fourStep acc).length
  | [], _ => Nat.le_refl _
  | c :: l, acc => Nat.le_trans (by unfold fourStep; rw [List.length_append]; omega) (foldl_mono4 l _)
theorem four_take {l : List Nat} (h : l.length ≤ 7) (i : Nat) : (fourT (l.take i)).length < 100 := by
  have q := fourT_small h
  have : fourT l = (l.drop i).foldl fourStep (fourT (l.take i)) := by unfold fourT; rw [← List.foldl_append, List.take_append_drop]
  rw [this] at q
  exact Nat.lt_of_le_of_lt (foldl_mono4 _ _) q
def sp_fours : Sp := fun vs H Q _ => ∃ l : List Nat, vs = [.str (tx l)] ∧ l.length ≤ 7 ∧ ∀ p H', Sm H H' → H p = none → H' p = some (.lst (vtx (fourL l))) → Q (.ref p) H'
theorem ok_fours (F : Fun K "_law_fours" "_law_fours" s_law_fours f fd) (T : Txt K mg C) : FnOk P w K mg base CX0 1 f fd ["_law_names_here"] sp_fours := by
  refine F.ok sc_law_fours (fun vs H Q E h => ?_) (fun cdv A outer s H vs Q E hr h => ?_)
  · obtain ⟨_, rfl, _⟩ := h; rfl
  · obtain ⟨l, rfl, hl, k⟩ := h
    refine ⟨_, (pss_cons (ps_set (i := 1) sc_law_fours.nd rfl (Or.inl rfl) (pe_lst (pa_cons pe_str pa_nil)))
      (pss_cons (ps_for PassesOwn.never rfl (pi_str (pv 0)) (pg_name (i := 2) sc_law_fours.nd rfl (Or.inr rfl) (Or.inl rfl))
      (pss_one (ps_set (i := 1) sc_law_fours.nd rfl (Or.inl rfl) (pe_op op_cat (pv 1) (pe_lc (own := [("_law_lot", 3)]) rfl sc_law_fours.nd (pi_listK K (pv 1)) (blkOk_by (own := [("_law_lot", 3)]) (N := N_law_fours) (sc := defScope s_law_fours) (by decide +kernel)) (fun _ _ _ _ _ => (pg_name (i := 3) sc_law_fours.nd rfl (Or.inl rfl) (Or.inr rfl))) (fun _ _ _ _ _ => (pts_one (pt_cmpR op_lt (pe_callB call_len_str (by rfl) T.len PySem.boot_len (pa_cons (pv 3) pa_nil)) pe_int (nomark _)))) (fun _ _ _ _ _ => (pe_op op_add_str (pv 3) (pv 2))))))))
      (pss_one (ps_ret (pe_lc (own := [("_law_lot", 3)]) rfl sc_law_fours.nd (pi_listK K (pv 1)) (blkOk_by (own := [("_law_lot", 3)]) (N := N_law_fours) (sc := defScope s_law_fours) (by decide +kernel)) (fun _ _ _ _ _ => (pg_name (i := 3) sc_law_fours.nd rfl (Or.inl rfl) (Or.inr rfl))) (fun _ _ _ _ _ => (pts_one (pt_cmpR op_eq (pe_callB call_len_str (by rfl) T.len PySem.boot_len (pa_cons (pv 3) pa_nil)) pe_int (nomark _)))) (fun _ _ _ _ _ => (pv 3))))))), ?_⟩
    refine ⟨sz5 (by show 1 ≤ 1000000; decide), fun R hR => ?_⟩
    refine ⟨_, rfl, tx l, rfl, ?_⟩
    refine for_it (walk_tx l) (fun i σ H' => Sm H H' ∧ ∃ (p : Addr) (y : Option V), H p = none ∧ H' p = some (.lst (vtx (fourT (l.take i)))) ∧ σ = [some (.str (tx l)), some (.ref p), y, none]) ⟨.new hR, R, none, hR, upd_same, rfl⟩ (fun _ _ _ _ _ => trivial) ?_ ?_
    · rintro i x σ H2 H3 hi ⟨e, p, y, np, hp, rfl⟩ ⟨rfl, c, hc, rfl⟩
      have hsm := four_take hl i
      have hll : ∀ x ∈ fourT (l.take i), x.length ≤ 7 := fun x hx => by
        have := four_len (n := 0) (l.take i) [[]] (by simp) x hx
        rw [List.length_take] at this
        omega
      refine ⟨_, rfl, _, rfl, p, rfl, ⟨_, SqL.of hp⟩, fun D hD => ?_⟩
      refine lcx (M := m0) (walk_list (xs := vtx (fourT (l.take i)))) hD (fun j L _ => L = vtx ((((fourT (l.take i)).take j).filter fun x => decide (x.length < 4)).map fun x => x ++ [c])) rfl (fun H' e2 => SqL.of (Sm.at e2 hp)) ?_ ?_
      · rintro j z H4 H5 L hj e2 hl' hz rfl ⟨rfl, hz2⟩
        obtain ⟨lot, hlot, rfl⟩ := vtx_get (ls := fourT (l.take i)) hz2
        have h7 := hll lot (List.mem_of_getElem? hlot)
        refine ⟨rfl, _, rfl, tx lot, rfl, by rw [tx_length]; exact sz5 (by omega), _, _, rfl, rfl, _, rfl, ?_⟩
        rw [tx_length]
        by_cases h4 : lot.length < 4
        · rw [decide_eq_true (by omega : ((lot.length : Int) < 4))]
          refine iteT ⟨_, rfl, _, rfl, tx lot, tx [c], rfl, rfl, by rw [tx_length, tx_length]; exact sz5 (by show lot.length + 1 ≤ _; omega), ?_⟩
          refine LW.add hD (.m0 _) e2 hl' (.refl _ _) ?_ ?_
          · have := List.length_filter_le (fun x : List Nat => decide (x.length < 4)) ((fourT (l.take i)).take j)
            rw [List.length_take] at this
            rw [List.length_append, List.length_singleton, vtx, List.length_map, List.length_map]; omega
          · show _ = vtx (List.map _ (List.filter _ (List.take (j + 1) _)))
            rw [take_snoc hlot, List.filter_append, List.map_append, vtx, vtx, List.map_append, tx_append]
            simp [h4]
        · rw [decide_eq_false (by omega : ¬ ((lot.length : Int) < 4))]
          refine iteF (LW.skip hD (.m0 _) e2 hl' (.refl _ _) hz ?_)
          show _ = vtx (List.map _ (List.filter _ (List.take (j + 1) _)))
          rw [take_snoc hlot, List.filter_append, List.map_append]
          simp [h4]
      · rintro L H4 e2 hl' rfl
        rw [show (vtx (fourT (l.take i))).length = (fourT (l.take i)).length by rw [vtx, List.length_map], List.take_length] at hl'
        have hp4 := Sm.at e2 hp
        refine ⟨p, D, _, _, rfl, rfl, hp4, hl', ?_, fun q hq => ?_⟩
        · have := List.length_filter_le (fun x : List Nat => decide (x.length < 4)) (fourT (l.take i))
          rw [vtx, List.length_map, vtx, List.length_map, List.length_map]; exact sz5 (by omega)
        have e5 := e.trans e2
        have nq := e5.fresh rfl hq
        refine ⟨e5.mut nq, q, _, nq, ?_, rfl⟩
        rw [upd_same, four_snoc hc]
        unfold fourStep
        rw [vtx, vtx, vtx, List.map_append]
    · rintro σ H2 ⟨e, p, y, np, hp, rfl⟩
      rw [List.take_length] at hp
      have hsm := fourT_small hl
      have hll : ∀ x ∈ fourT l, x.length ≤ 7 := fun x hx => by
        have := four_len (n := 0) l [[]] (by simp) x hx
        omega
      refine ⟨_, rfl, p, rfl, ⟨_, SqL.of hp⟩, fun D hD => ?_⟩
      refine lcx (M := m0) (walk_list (xs := vtx (fourT l))) hD (fun j L _ => L = vtx (((fourT l).take j).filter fun x => decide (x.length = 4))) rfl (fun H' e2 => SqL.of (Sm.at e2 hp)) ?_ ?_
      · rintro j z H4 H5 L hj e2 hl' hz rfl ⟨rfl, hz2⟩
        obtain ⟨lot, hlot, rfl⟩ := vtx_get (ls := fourT l) hz2
        have h7 := hll lot (List.mem_of_getElem? hlot)
        refine ⟨rfl, _, rfl, tx lot, rfl, by rw [tx_length]; exact sz5 (by omega), rfl, _, rfl, ?_⟩
        rw [tx_length, show decide (V.int (lot.length : Int) = V.int 4) = decide (lot.length = 4) by rw [dec_int, Bool.eq_iff_iff]; simp; omega]
        by_cases h4 : lot.length = 4
        · rw [decide_eq_true h4]
          refine iteT ⟨_, rfl, LW.add hD (.m0 _) e2 hl' (.refl _ _) ?_ ?_⟩
          · have := List.length_filter_le (fun x : List Nat => decide (x.length = 4)) ((fourT l).take j)
            rw [List.length_take] at this
            rw [List.length_append, List.length_singleton, vtx, List.length_map]; omega
          · show _ = vtx (List.filter _ (List.take (j + 1) _))
            rw [take_snoc hlot, List.filter_append, vtx, vtx, List.map_append]
            simp [h4]
        · rw [decide_eq_false h4]
          refine iteF (LW.skip hD (.m0 _) e2 hl' (.refl _ _) hz ?_)
          show _ = vtx (List.filter _ (List.take (j + 1) _))
          rw [take_snoc hlot, List.filter_append]
          simp [h4]
      · rintro L H4 e2 hl' rfl
        rw [show (vtx (fourT l)).length = (fourT l).length by rw [vtx, List.length_map], List.take_length] at hl'
        exact k D H4 (e.trans e2) (e.fresh rfl hD) hl'
end
end K20
set_option Elab.async false
set_option linter.all false
set_option maxRecDepth 100000
set_option maxHeartbeats 4000000
namespace K20
open PySem PySem.Spec PyProof.Rows L2 Nf
section
theorem op_inDK {X : Cx} (K : PySem.W.Frag) (hu : X.A.units + 65 < cLine) (h : X.K = K := by rfl) : OpR X (compareOp .In) (rInD K) := h ▸ op_inD hu
theorem hu65 {A : Around} {k : Nat} (hr : Room k A) : A.units + 65 < cLine := by have := hr.un; omega
variable {P : Program} {w : World} {K : PySem.W.Frag} {mg : Str → Option Value} {base : Heap} {C : Addr} {f : Addr} {fd : FuncData}
/-! ### do_cross -/
theorem lot_sub {v l : List Nat} (h : isLotM v l = true) : ∀ c ∈ v, c ∈ l := fun c hc => by
  rw [of_decide_eq_true h] at hc
  exact (List.mem_filter.mp hc).1
theorem parting_sub {p l : List Nat} (h : isPartingM p l = true) : ∀ c ∈ p, c ∈ l := fun c hc => by
  unfold isPartingM at h
  rw [Bool.and_eq_true] at h
  exact List.mem_of_mem_drop (lot_sub h.1 c hc)
/-- some letter of l is so to p and so to q -/
def kindM (l p q : List Nat) (a b : Bool) : Bool := l.any fun c => (decide (c ∈ p) == a) && (decide (c ∈ q) == b)
theorem cross_kinds {l p q : List Nat} (hp : ∀ c ∈ p, c ∈ l) (hq : ∀ c ∈ q, c ∈ l) : crossM l p q = [kindM l p q true true, kindM l p q true false, kindM l p q false true, kindM l p q false false].all id := by
  have e1 : (p.any fun c => decide (c ∈ q)) = kindM l p q true true := by
    rw [Bool.eq_iff_iff]
    simp only [kindM, List.any_eq_true, decide_eq_true_eq, Bool.and_eq_true, beq_iff_eq]
    exact ⟨fun ⟨c, h1, h2⟩ => ⟨c, hp c h1, h1, h2⟩, fun ⟨c, _, h1, h2⟩ => ⟨c, h1, h2⟩⟩
  have e2 : (p.any fun c => decide (c ∈ otherM l q)) = kindM l p q true false := by
    rw [Bool.eq_iff_iff]
    simp only [kindM, otherM, List.any_eq_true, decide_eq_true_eq, Bool.and_eq_true, beq_iff_eq, List.mem_filter, Bool.not_eq_true', decide_eq_false_iff_not]
    exact ⟨fun ⟨c, h1, h2, h3⟩ => ⟨c, h2, h1, h3⟩, fun ⟨c, h0, h1, h2⟩ => ⟨c, h1, h0, h2⟩⟩
  have e3 : ((otherM l p).any fun c => decide (c ∈ q)) = kindM l p q false true := by
    rw [Bool.eq_iff_iff]
    simp only [kindM, otherM, List.any_eq_true, decide_eq_true_eq, Bool.and_eq_true, beq_iff_eq, List.mem_filter, Bool.not_eq_true', decide_eq_false_iff_not]
    exact ⟨fun ⟨c, ⟨h1, h2⟩, h3⟩ => ⟨c, h1, h2, h3⟩, fun ⟨c, h0, h1, h2⟩ => ⟨c, ⟨h0, h1⟩, h2⟩⟩
  have e4 : ((otherM l p).any fun c => decide (c ∈ otherM l q)) = kindM l p q false false := by
    rw [Bool.eq_iff_iff]
    simp only [kindM, otherM, List.any_eq_true, decide_eq_true_eq, Bool.and_eq_true, beq_iff_eq, List.mem_filter, Bool.not_eq_true', decide_eq_false_iff_not]
    exact ⟨fun ⟨c, ⟨h1, h2⟩, h3, h4⟩ => ⟨c, h1, h2, h4⟩, fun ⟨c, h0, h1, h2⟩ => ⟨c, ⟨h0, h1⟩, h0, h2⟩⟩
  unfold crossM crossBs
  simp only [List.flatMap_cons, List.flatMap_nil, List.map_cons, List.map_nil, List.append_nil, List.cons_append, List.nil_append]
  rw [e1, e2, e3, e4]
/-- a list of two truths -/
def dbb (a b : Bool) : PyData := .list [.bool a, .bool b]
theorem eqv_bb (a b c d : Bool) : PyData.eqv (dbb a b) (dbb c d) = ((a == c) && (b == d)) := by
  cases a <;> cases b <;> cases c <;> cases d <;> rfl
def PairB (H : Hp) (D : Addr) (bs : List (Bool × Bool)) (as : List Addr) : Prop := as.length = bs.length ∧ ∀ (i : Nat) b x, as[i]? = some b → bs[i]? = some x → b ≠ D ∧ H b = some (.lst [.bl x.1, .bl x.2])
theorem PairB.nil {H : Hp} {D : Addr} : PairB H D [] [] := ⟨rfl, fun i b x h => by simp at h⟩
theorem PairB.add {H H' : Hp} {D b : Addr} {bs : List (Bool × Bool)} {as : List Addr} {o : HO} {x : Bool × Bool} (p : PairB H D bs as) (e : Sm H H') (hb : H' b = some (.lst [.bl x.1, .bl x.2])) (hD : b ≠ D) : PairB (upd H' D o) D (bs ++ [x]) (as ++ [b]) := by
  obtain ⟨p1, p2⟩ := p
  refine ⟨by rw [List.length_append, List.length_append, p1]; rfl, fun i c y hc hy => ?_⟩
  by_cases hi : i < bs.length
  · rw [List.getElem?_append_left (by omega)] at hc
    rw [List.getElem?_append_left hi] at hy
    obtain ⟨q1, q2⟩ := p2 i c y hc hy
    exact ⟨q1, by rw [upd_ne q1]; exact Sm.at e q2⟩
  · rw [List.getElem?_append_right (by omega)] at hc hy
    have h0 : i - bs.length = 0 := by
      have := (List.getElem?_eq_some_iff.mp hy).1
      rw [List.length_singleton] at this
      omega
    rw [p1, h0] at hc
    rw [h0] at hy
    cases hc
    cases hy
    exact ⟨hD, by rw [upd_ne hD]; exact hb⟩
theorem PairB.dp {K : PySem.W.Frag} {H : Hp} {D : Addr} : ∀ {bs : List (Bool × Bool)} {as : List Addr}, PairB H D bs as → DpAll K H (as.map V.ref) (bs.map fun x => dbb x.1 x.2)
  | [], [], _ => .nil
  | [], b :: as, p => nomatch p.1
  | x :: bs, [], p => nomatch p.1
  | x :: bs, b :: as, p => .cons (.lst (SqL.of (p.2 0 b x rfl rfl).2) (.cons (.bl _) (.cons (.bl _) .nil))) (PairB.dp ⟨Nat.succ.inj p.1, fun i c y hc hy => p.2 (i + 1) c y hc hy⟩)
theorem shaped_bbs (bs : List (Bool × Bool)) : SeqAt.shaped (.list (bs.map fun x => dbb x.1 x.2)) = true := by
  have h1 : ∀ bs : List (Bool × Bool), PyData.canLayAll0 (bs.map fun x => dbb x.1 x.2) = true ∧ PyData.depthAll (bs.map fun x => dbb x.1 x.2) ≤ 1 := by
    intro bs
    induction bs with
    | nil => exact ⟨rfl, Nat.zero_le _⟩
    | cons x bs ih =>
      constructor
      · show (PyData.canLay0 (dbb x.1 x.2) && PyData.canLayAll0 _) = true
        rw [ih.1]; rfl
      · show max (PyData.depth (dbb x.1 x.2)) _ ≤ 1
        exact Nat.max_le.mpr ⟨Nat.le_refl _, ih.2⟩
  obtain ⟨a, b⟩ := h1 bs
  unfold SeqAt.shaped
  have c : PyData.canLay0 (.list (bs.map fun x => dbb x.1 x.2)) = true := a
  have d : PyData.depth (.list (bs.map fun x => dbb x.1 x.2)) ≤ 2 := Nat.succ_le_succ b
  rw [c, decide_eq_true (Nat.le_trans d (by decide))]; rfl
theorem any_bbs (bs : List (Bool × Bool)) (a b : Bool) : ((bs.map fun x => dbb x.1 x.2).any fun z => PyData.eqv z (dbb a b)) = bs.any fun x => (x.1 == a) && (x.2 == b) := by
  rw [List.any_map]
  congr 1
  funext x
  exact eqv_bb _ _ _ _
def sp_do_cross : Sp := fun vs H Q _ => ∃ l p q : List Nat, vs = [.str (tx l), .str (tx p), .str (tx q)] ∧ l.length ≤ 7 ∧ isPartingM p l = true ∧ isPartingM q l = true ∧ ∀ H', Sm H H' → Q (.bl (crossM l p q)) H'
theorem ok_do_cross (F : Fun K "_law_do_cross" "_law_do_cross" s_law_do_cross f fd) (T : Txt K mg C) : FnOk P w K mg base CX0 1 f fd ["_law_names_here", "_law_one", "_law_two"] sp_do_cross := by
  refine F.ok sc_law_do_cross (fun vs H Q E h => ?_) (fun cdv A outer s H vs Q E hr h => ?_)
  · obtain ⟨_, _, _, rfl, _⟩ := h; rfl
  · obtain ⟨l, p, q, rfl, h7, hp, hq, k⟩ := h
    rw [cross_kinds (parting_sub hp) (parting_sub hq)] at k
    refine ⟨_, (pss_cons (ps_set (i := 3) sc_law_do_cross.nd rfl (Or.inr rfl) (pe_lc (own := [("_law_name", 4)]) rfl sc_law_do_cross.nd (pi_str (pv 0)) (blkOk_by (own := [("_law_name", 4)]) (N := N_law_do_cross) (sc := defScope s_law_do_cross) (by decide +kernel)) (fun _ _ _ _ _ => (pg_name (i := 4) sc_law_do_cross.nd rfl (Or.inl rfl) (Or.inr rfl))) (fun _ _ _ _ _ => pts_nil) (fun _ _ _ _ _ => (pe_lst (pa_cons (pe_cmpR op_in_sign (pv 4) (pv 1) rfl) (pa_cons (pe_cmpR op_in_sign (pv 4) (pv 2) rfl) pa_nil))))))
      (pss_one (ps_ret (pe_callB (cr_allK K rfl) (by rfl) T.all (by decide +kernel) (pa_cons (pe_lc (own := [("_law_kind", 5)]) rfl sc_law_do_cross.nd (pi_listK K (pe_lst (pa_cons (pe_lst (pa_cons pe_bl (pa_cons pe_bl pa_nil))) (pa_cons (pe_lst (pa_cons pe_bl (pa_cons pe_bl pa_nil))) (pa_cons (pe_lst (pa_cons pe_bl (pa_cons pe_bl pa_nil))) (pa_cons (pe_lst (pa_cons pe_bl (pa_cons pe_bl pa_nil))) pa_nil)))))) (blkOk_by (own := [("_law_kind", 5)]) (N := N_law_do_cross) (sc := defScope s_law_do_cross) (by decide +kernel)) (fun _ _ _ _ _ => (pg_name (i := 5) sc_law_do_cross.nd rfl (Or.inl rfl) (Or.inr rfl))) (fun _ _ _ _ _ => pts_nil) (fun _ _ _ _ _ => (pe_cmpR (op_inDK K (hu65 hr)) (pv 5) (pv 3) (by rfl)))) pa_nil))))), ?_⟩
    refine ⟨_, rfl, tx l, rfl, fun D hD => ?_⟩
    refine lcx (M := m0) (walk_tx l) hD (fun i L H' => ∃ as, L = as.map V.ref ∧ PairB H' D ((l.take i).map fun c => (decide (c ∈ p), decide (c ∈ q))) as) ⟨[], rfl, PairB.nil⟩ (fun _ _ => trivial) ?_ ?_
    · rintro i x H1 H2 L hi e hl' hz ⟨as, rfl, hpb⟩ ⟨rfl, c, hc, rfl⟩
      refine ⟨rfl, yesT ⟨_, rfl, _, rfl, c, tx p, rfl, rfl, _, rfl, _, rfl, c, tx q, rfl, rfl, sz5 (by show 2 ≤ 1000000; decide), fun b hb => ?_⟩⟩
      rw [tx_toList, tx_toList]
      have hbD : b ≠ D := fun z => by rw [z, hl'] at hb; cases hb
      refine LW.add hD (.m0 _) e hl' (.new hb) ?_ ⟨as ++ [b], by rw [List.map_append]; rfl, ?_⟩
      · rw [List.length_append, List.length_singleton, List.length_map, hpb.1, List.length_map, List.length_take]; omega
      · rw [take_snoc hc, List.map_append]
        refine hpb.add (x := (decide (c ∈ p), decide (c ∈ q))) (.new hb) ?_ hbD
        rw [upd_same]
    · rintro L H1 e hl' ⟨as, rfl, hpb⟩
      rw [List.take_length] at hpb
      have z2 : [V.bl true, V.bl true].length ≤ sizeLine := sz5 (by show 2 ≤ 1000000; decide)
      refine ⟨z2, fun b1 n1 => ⟨z2, fun b2 n2 => ⟨z2, fun b3 n3 => ⟨z2, fun b4 n4 => ⟨sz5 (by show 4 ≤ 1000000; decide), fun g ng => ?_⟩⟩⟩⟩⟩
      have f1 := Ext.new (M := m0) (o := .lst [.bl true, .bl true]) n1
      have f2 := Ext.new (M := m0) (o := .lst [.bl true, .bl false]) n2
      have f3 := Ext.new (M := m0) (o := .lst [.bl false, .bl true]) n3
      have f4 := Ext.new (M := m0) (o := .lst [.bl false, .bl false]) n4
      have f5 := Ext.new (M := m0) (o := .lst [.ref b1, .ref b2, .ref b3, .ref b4]) ng
      have o1 := Sm.at (((f2.trans f3).trans f4).trans f5) upd_same
      have o2 := Sm.at ((f3.trans f4).trans f5) (upd_same (a := b2) (o := HO.lst [.bl true, .bl false]))
      have o3 := Sm.at (f4.trans f5) (upd_same (a := b3) (o := HO.lst [.bl false, .bl true]))
      have o4 := Sm.at f5 (upd_same (a := b4) (o := HO.lst [.bl false, .bl false]))
      have e5 := (((f1.trans f2).trans f3).trans f4).trans f5
      refine ⟨g, rfl, ⟨_, SqL.of upd_same⟩, fun D2 hD2 => ?_⟩
      let ks : List (Bool × Bool) := [(true, true), (true, false), (false, true), (false, false)]
      refine lcx (M := m0) (walk_list (xs := [.ref b1, .ref b2, .ref b3, .ref b4])) hD2 (fun i L _ => L = ((ks.take i).map fun x => kindM l p q x.1 x.2).map V.bl) rfl (fun H' e2 => SqL.of (Sm.at e2 upd_same)) ?_ ?_
      · rintro i x H2 H3 L hi e2 hl2 hz rfl ⟨rfl, hx⟩
        have hi : i < 4 := hi
        have hsm : ∀ {a : Addr} {o : HO}, H1 a = some o → H3 a = some o := fun h => Sm.at (e5.trans e2) h
        obtain ⟨b, y, rfl, hy, hb⟩ : ∃ b y, x = V.ref b ∧ ks[i]? = some y ∧ H3 b = some (.lst [.bl y.1, .bl y.2]) := by
          match i, hi with
          | 0, _ => exact ⟨b1, (true, true), (Option.some.inj hx).symm, rfl, Sm.at e2 o1⟩
          | 1, _ => exact ⟨b2, (true, false), (Option.some.inj hx).symm, rfl, Sm.at e2 o2⟩
          | 2, _ => exact ⟨b3, (false, true), (Option.some.inj hx).symm, rfl, Sm.at e2 o3⟩
          | 3, _ => exact ⟨b4, (false, false), (Option.some.inj hx).symm, rfl, Sm.at e2 o4⟩
        have hpb3 : PairB H3 D (l.map fun c => (decide (c ∈ p), decide (c ∈ q))) as := ⟨hpb.1, fun i b x h1 h2 => ⟨(hpb.2 i b x h1 h2).1, hsm (hpb.2 i b x h1 h2).2⟩⟩
        refine ⟨rfl, yesT ⟨_, rfl, _, rfl, dbb y.1 y.2, _, .lst (SqL.of hb) (.cons (.bl _) (.cons (.bl _) .nil)), .lst (SqL.of (hsm hl')) hpb3.dp, ?_, shaped_bbs _, ?_⟩⟩
        · cases y.1 <;> cases y.2 <;> decide
        rw [any_bbs, List.any_map]
        refine LW.add hD2 (.m0 _) e2 hl2 (.refl _ _) ?_ ?_
        · rw [List.length_append, List.length_singleton, List.length_map, List.length_map, List.length_take]
          have : ks.length = 4 := rfl
          omega
        · show _ = List.map _ (List.map _ (List.take (i + 1) _))
          rw [take_snoc hy, List.map_append, List.map_append]; rfl
      · rintro L H2 e2 hl2 rfl
        exact ⟨D2, _, rfl, SqL.of hl2, k H2 ((e.trans e5).trans e2)⟩
end
end K20
set_option Elab.async false
set_option linter.all false
set_option maxRecDepth 100000
set_option maxHeartbeats 4000000
namespace K20
open PySem PySem.Spec PyProof.Rows L2 Nf
section
variable {P : Program} {w : World} {K : PySem.W.Frag} {mg : Str → Option Value} {base : Heap} {C : Addr} {f : Addr} {fd : FuncData}
theorem any_perm {l m : List (List Nat)} (h : l.Perm m) (g : List Nat → Bool) : l.any g = m.any g := by
  rw [Bool.eq_iff_iff, List.any_eq_true, List.any_eq_true]
  exact ⟨fun ⟨x, h1, h2⟩ => ⟨x, h.mem_iff.mp h1, h2⟩, fun ⟨x, h1, h2⟩ => ⟨x, h.mem_iff.mpr h1, h2⟩⟩
theorem clash_four {l : List Nat} (h : l.length ≤ 7) (ps : List (List Nat)) : clashM l ps = (fourL l).any (clashB ps) := by
  rw [any_perm (four_comb h), clashM, List.any_map]; rfl
def sp_do_clash : Sp := fun vs H Q _ => ∃ (l p q r : List Nat) (a : Addr), vs = [.str (tx l), .ref a] ∧ H a = some (.lst (vtx [p, q, r])) ∧ l.length ≤ 7 ∧ isLotM l lettersL = true ∧ ∀ H', Sm H H' → Q (.bl (clashM l [p, q, r])) H'
theorem ok_do_clash (F : Fun K "_law_do_clash" "_law_do_clash" s_law_do_clash f fd) (T : Txt K mg C) (C__law_fours : Can P w K mg base 1 "_law_fours" s_law_fours ["_law_names_here"] sp_fours) :
    FnOk P w K mg base CX0 2 f fd ["_law_names_here", "_law_lots_here"] sp_do_clash := by
  refine F.ok sc_law_do_clash (fun vs H Q E h => ?_) (fun cdv A outer s H vs Q E hr h => ?_)
  · obtain ⟨_, _, _, _, _, rfl, _⟩ := h; rfl
  · obtain ⟨l, p, q, r, a, rfl, ha, h7, hlot, k⟩ := h
    rw [clash_four h7] at k
    refine ⟨_, (pss_cons (ps_for PassesOwn.never rfl (pi_listK K (pe_can C__law_fours (hr.mono (by decide)) (pa_cons (pv 0) pa_nil))) (pg_name (i := 2) sc_law_do_clash.nd rfl (Or.inl rfl) (Or.inr rfl))
      (pss_cons (ps_set (i := 3) sc_law_do_clash.nd rfl (Or.inl rfl) (pe_lst pa_nil))
      (pss_cons (ps_for PassesOwn.never rfl (pi_listK K (pv 1)) (pg_name (i := 4) sc_law_do_clash.nd rfl (Or.inr rfl) (Or.inl rfl))
      (pss_cons (ps_set (i := 5) sc_law_do_clash.nd rfl (Or.inr rfl) (pe_lc (own := [("_law_name", 6)]) rfl sc_law_do_clash.nd (pi_str (pv 2)) (blkOk_by (own := [("_law_name", 6)]) (N := N_law_do_clash) (sc := defScope s_law_do_clash) (by decide +kernel)) (fun _ _ _ _ _ => (pg_name (i := 6) sc_law_do_clash.nd rfl (Or.inl rfl) (Or.inr rfl))) (fun _ _ _ _ _ => pts_nil) (fun _ _ _ _ _ => (pe_cmpR op_in_sign (pv 6) (pv 4) rfl))))
      (pss_cons (ps_setLc (i := 7) (own := [("_law_k", 8)]) rfl sc_law_do_clash.nd rfl rfl (sw_true rfl rfl rfl (by decide +kernel)) (pi_range2 (by rfl) T.range (pa_cons pe_int (pa_cons pe_int pa_nil))) (blkOk_by (own := [("_law_k", 8)]) (N := N_law_do_clash) (sc := defScope s_law_do_clash) (by decide +kernel)) (fun _ _ _ _ _ => (pg_name (i := 8) sc_law_do_clash.nd rfl (Or.inl rfl) (Or.inr rfl))) (fun _ _ _ _ _ => (pts_one (pt_cmpR op_eq (pe_ix (ix_listK K) (pv 5) (pv 8) (fun _ _ => rfl)) (pe_ix (ix_listK K) (pv 5) pe_int (fun _ _ => rfl)) (nomark _)))) (fun _ _ _ _ _ => (pv 8)))
      (pss_one (ps_expr (pe_atK K (pe_bm PySem.F.plainAttrs_list PySem.F.slot_list_append PySem.F.type_list_append mt_append (pv 3) (pa_cons (pe_ifExp (pt_cmpR op_eq (pe_callB (call_len_seqK K) (by rfl) T.len PySem.boot_len (pa_cons (pv 7) pa_nil)) pe_int (nomark _)) (pe_ix (ix_listK K) (pv 7) pe_int (fun _ _ => rfl)) pe_int) pa_nil))))))))
      (pss_one (ps_if (pt_cmpR (op_eqDK K hr.units) (pe_callB (cr_sortedK K) (by rfl) T.sorted (by decide +kernel) (pa_cons (pv 3) pa_nil)) (pe_lst (pa_cons pe_int (pa_cons pe_int (pa_cons pe_int pa_nil)))) (nomark _)) (pss_one (ps_ret pe_bl)) pss_nil)))))
      (pss_one (ps_ret pe_bl))), ?_⟩
    refine ⟨_, rfl, l, rfl, h7, fun fr H1 e1 nfr hfr => ?_⟩
    refine ⟨fr, rfl, ⟨_, SqL.of hfr⟩, ?_⟩
    have ha1 := Sm.at e1 ha
    refine for_it (walk_list (xs := vtx (fourL l))) (fun i σ H' => Sm H H' ∧ H' fr = some (.lst (vtx (fourL l))) ∧ ((fourL l).take i).any (clashB [p, q, r]) = false ∧ ∃ y2 y3 y4 y5 y7, σ = [some (.str (tx l)), some (.ref a), y2, y3, y4, y5, none, y7, none])
      ⟨e1, hfr, rfl, _, _, _, _, _, rfl⟩ (fun _ _ _ _ q => SqL.of q.2.1) ?_ ?_
    · rintro i x σ H2 H3 hi ⟨e2, hf2, hany, y2, y3, y4, y5, y7, rfl⟩ ⟨rfl, hx⟩
      obtain ⟨four, hfi, rfl⟩ := vtx_get hx
      have hfm := (four_comb h7).mem_iff.mp (List.mem_of_getElem? hfi)
      have hf4 := combIx_len _ _ _ hfm
      have hfr4 := comb_rise 4 l (lot_rise hlot) _ hfm
      obtain ⟨x0, x1, x2, x3, rfl⟩ : ∃ x0 x1 x2 x3, four = [x0, x1, x2, x3] := by
        match four, hf4 with
        | [x0, x1, x2, x3], _ => exact ⟨x0, x1, x2, x3, rfl⟩
      have lt12 : x1 < x2 := by simp at hfr4; omega
      have lt23 : x2 < x3 := by simp at hfr4; omega
      refine ⟨sz5 (by show 0 ≤ 1000000; decide), fun hh hhh => ?_⟩
      have nhh : H hh = none := e2.fresh rfl hhh
      have hfh : fr ≠ hh := fun z => by rw [← z, hf2] at hhh; cases hhh
      have hah : a ≠ hh := fun z => by rw [← z, Sm.at e2 ha] at hhh; cases hhh
      refine ⟨_, rfl, a, rfl, ⟨_, SqL.of (Sm.at (e2.trans (.new hhh)) ha)⟩, ?_⟩
      refine for_it (walk_list (xs := vtx [p, q, r])) (fun j σ H' => Sm H H' ∧ H' fr = some (.lst (vtx (fourL l))) ∧ H' hh = some (.lst ((([p, q, r].take j).map fun s => (hitM s [x0, x1, x2, x3] : Int)).map V.int)) ∧ ∃ y4 y5 y7, σ = [some (.str (tx l)), some (.ref a), some (.str (tx [x0, x1, x2, x3])), some (.ref hh), y4, y5, none, y7, none])
        ⟨e2.trans (.new hhh), Sm.at (.new hhh) hf2, upd_same, _, _, _, rfl⟩ (fun _ _ _ _ q => SqL.of (Sm.at q.1 ha)) ?_ ?_
      · rintro j y σ H4 H5 hj ⟨e4, hf4', hh4, z4, z5, z7, rfl⟩ ⟨rfl, hy⟩
        obtain ⟨lot, hlt, rfl⟩ := vtx_get (ls := [p, q, r]) hy
        refine ⟨_, rfl, tx [x0, x1, x2, x3], rfl, fun D hD => ?_⟩
        refine lcx (M := m0) (walk_tx [x0, x1, x2, x3]) hD (fun n L _ => L = (([x0, x1, x2, x3].take n).map fun c => decide (c ∈ lot)).map V.bl) rfl (fun _ _ => trivial) ?_ ?_
        · rintro n z H6 H7 L hn e6 hl6 hz rfl ⟨rfl, c, hc, rfl⟩
          refine ⟨rfl, yesT ⟨_, rfl, _, rfl, c, tx lot, rfl, rfl, ?_⟩⟩
          rw [tx_toList]
          refine LW.add hD (.m0 _) e6 hl6 (.refl _ _) ?_ ?_
          · rw [List.length_append, List.length_singleton, List.length_map, List.length_map, List.length_take]
            have : [x0, x1, x2, x3].length = 4 := rfl
            omega
          · show _ = List.map _ (List.map _ (List.take (n + 1) _))
            rw [take_snoc hc, List.map_append, List.map_append]; rfl
        · rintro L H6 e6 hl6 rfl
          have hin : H6 D = some (.lst (([x0, x1, x2, x3].map fun c => decide (c ∈ lot)).map V.bl)) := hl6
          refine ⟨1, 4, rfl, ⟨by decide, by decide, by decide, by decide⟩, fun D2 hD2 => ?_⟩
          refine lcx (M := m0) (walk_range (lo := 1) (n := ((4 : Int) - 1).toNat)) hD2 (fun n L _ => L = ((([1, 2, 3].take n).filter fun k => decide ([x0, x1, x2, x3].getD k 0 ∈ lot) == decide ([x0, x1, x2, x3].getD 0 0 ∈ lot)).map fun k => ((k : Nat) : Int)).map V.int) rfl (fun _ _ => trivial) ?_ ?_
          · rintro n z H7 H8 L hn e7 hl7 hz rfl ⟨rfl, hx7⟩
            have hn : n < 3 := hn
            have hx7 : z = V.int ((n + 1 : Nat) : Int) := by rw [hx7]; exact congrArg V.int (by omega)
            subst hx7
            have hk : [1, 2, 3][n]? = some (n + 1) := by
              match n, hn with
              | 0, _ => rfl
              | 1, _ => rfl
              | 2, _ => rfl
            have hin7 := Sm.at e7 hin
            have g0 : (([x0, x1, x2, x3].map fun c => decide (c ∈ lot)).map V.bl)[0]? = some (V.bl (decide ([x0, x1, x2, x3].getD 0 0 ∈ lot))) := rfl
            have gk : (([x0, x1, x2, x3].map fun c => decide (c ∈ lot)).map V.bl)[n + 1]? = some (V.bl (decide ([x0, x1, x2, x3].getD (n + 1) 0 ∈ lot))) := by
              match n, hn with
              | 0, _ => rfl
              | 1, _ => rfl
              | 2, _ => rfl
            refine ⟨rfl, _, rfl, _, rfl, D, _, _, _, rfl, rfl, SqL.of hin7, atI_nat gk, _, rfl, D, _, 0, _, rfl, rfl, SqL.of hin7, atI_nat (j := 0) g0, rfl, _, rfl, ?_⟩
            rw [dec_bl]
            cases hm : decide ([x0, x1, x2, x3].getD (n + 1) 0 ∈ lot) == decide ([x0, x1, x2, x3].getD 0 0 ∈ lot) with
            | true =>
              refine iteT ⟨_, rfl, LW.add hD2 (.m0 _) e7 hl7 (.refl _ _) ?_ ?_⟩
              · have := List.length_filter_le (fun k => decide ([x0, x1, x2, x3].getD k 0 ∈ lot) == decide ([x0, x1, x2, x3].getD 0 0 ∈ lot)) ([1, 2, 3].take n)
                rw [List.length_take] at this
                have : [1, 2, 3].length = 3 := rfl
                rw [List.length_append, List.length_singleton, List.length_map, List.length_map]; omega
              · show _ = List.map _ (List.map _ (List.filter _ (List.take (n + 1) _)))
                rw [take_snoc hk, List.filter_append, List.map_append, List.map_append]
                simp only [List.filter_cons, List.filter_nil, hm, if_true, List.map_cons, List.map_nil]
            | false =>
              refine iteF (LW.skip hD2 (.m0 _) e7 hl7 (.refl _ _) hz ?_)
              show _ = List.map _ (List.map _ (List.filter _ (List.take (n + 1) _)))
              rw [take_snoc hk, List.filter_append]
              simp only [List.filter_cons, List.filter_nil, hm, Bool.false_eq_true, if_false, List.append_nil]
          · rintro L H7 e7 hl7 rfl
            have hmt : H7 D2 = some (.lst (((matesM lot [x0, x1, x2, x3]).map fun k => ((k : Nat) : Int)).map V.int)) := hl7
            have e57 := e6.trans e7
            have hh7 := Sm.at e57 hh4
            have hgl : H7 hh = some (.lst ((([p, q, r].take j).map fun s => (hitM s [x0, x1, x2, x3] : Int)).map V.int)) := hh7
            have el : (((matesM lot [x0, x1, x2, x3]).map fun k => ((k : Nat) : Int)).map V.int).length = (matesM lot [x0, x1, x2, x3]).length := by rw [List.length_map, List.length_map]
            have stp : ∀ v : V, v = V.int (hitM lot [x0, x1, x2, x3] : Int) → (Sm H (upd H7 hh (.lst ((([p, q, r].take j).map fun s => (hitM s [x0, x1, x2, x3] : Int)).map V.int ++ [v]))) ∧ (upd H7 hh (.lst ((([p, q, r].take j).map fun s => (hitM s [x0, x1, x2, x3] : Int)).map V.int ++ [v]))) fr = some (.lst (vtx (fourL l))) ∧
                (upd H7 hh (.lst ((([p, q, r].take j).map fun s => (hitM s [x0, x1, x2, x3] : Int)).map V.int ++ [v]))) hh = some (.lst ((([p, q, r].take (j + 1)).map fun s => (hitM s [x0, x1, x2, x3] : Int)).map V.int))) := fun v hv => by
              refine ⟨(e4.trans e57).mut nhh, by rw [upd_ne hfh]; exact Sm.at e57 hf4', ?_⟩
              rw [upd_same, take_snoc hlt, List.map_append, List.map_append, hv]; rfl
            have sl : ((([p, q, r].take j).map fun s => (hitM s [x0, x1, x2, x3] : Int)).map V.int).length < sizeLine := by
              rw [List.length_map, List.length_map, List.length_take, sizeLine_eq]
              have : [p, q, r].length = 3 := rfl
              omega
            refine ⟨_, rfl, .inl ⟨rfl, _, SqL.of hgl⟩, ?_⟩
            by_cases h1 : (matesM lot [x0, x1, x2, x3]).length = 1
            · refine ⟨_, rfl, D2, _, rfl, .inl (SqL.of hmt), rfl, true, congrArg V.bl (decide_eq_true (by rw [el, h1]; rfl)), iteT ?_⟩
              obtain ⟨m0', hm0⟩ : ∃ m0', matesM lot [x0, x1, x2, x3] = [m0'] := by
                match matesM lot [x0, x1, x2, x3], h1 with
                | [m0'], _ => exact ⟨m0', rfl⟩
              rw [hm0] at hmt
              refine ⟨_, rfl, D2, _, 0, _, rfl, rfl, SqL.of hmt, rfl, hh, _, _, rfl, rfl, hgl, sl, ?_⟩
              have s3 := stp (V.int ((m0' : Nat) : Int)) (by rw [hitM, if_pos h1, hm0]; rfl)
              exact ⟨s3.1, s3.2.1, s3.2.2, _, _, _, rfl⟩
            · refine ⟨_, rfl, D2, _, rfl, .inl (SqL.of hmt), rfl, false, congrArg V.bl (decide_eq_false (fun z => h1 (by injection z with z; rw [el] at z; omega))), iteF ?_⟩
              refine ⟨hh, _, _, rfl, rfl, hgl, sl, ?_⟩
              have s3 := stp (V.int 0) (by rw [hitM, if_neg h1]; rfl)
              exact ⟨s3.1, s3.2.1, s3.2.2, _, _, _, rfl⟩
      · rintro σ H4 ⟨e4, hf4', hh4, z4, z5, z7, rfl⟩
        have hh5 : H4 hh = some (.lst (([p, q, r].map fun s => (hitM s [x0, x1, x2, x3] : Int)).map V.int)) := hh4
        refine ⟨_, rfl, hh, _, rfl, SqL.of hh5, by show 3 < 64; decide, fun ns' pp hpn hps npp => ?_⟩
        refine ⟨sz5 (by show 3 ≤ 1000000; decide), fun g ng => ?_⟩
        have hgp : pp ≠ g := fun z => by rw [← z, upd_same] at ng; cases ng
        have hpp : (upd (upd H4 pp (.lst (ns'.map V.int))) g (.lst ([1, 2, 3].map V.int))) pp = some (.lst (ns'.map V.int)) := by rw [upd_ne hgp]; exact upd_same
        have e5 : Sm H (upd (upd H4 pp (.lst (ns'.map V.int))) g (.lst ([1, 2, 3].map V.int))) := (e4.trans (.new npp)).trans (.new ng)
        refine ⟨.list (dint ns'), .list (dint [1, 2, 3]), .lst (SqL.of hpp) (dpAll_int _), .lst (xs := [1, 2, 3].map V.int) (SqL.of upd_same) (dpAll_int _), shaped_int _, shaped_int _, _, rfl, ?_⟩
        rw [PyData.eqv, eqv_int, hits_clash lt12 lt23 hpn hps]
        cases hc : clashB [p, q, r] [x0, x1, x2, x3] with
        | true =>
          refine iteT ?_
          have : (fourL l).any (clashB [p, q, r]) = true := List.any_eq_true.mpr ⟨_, List.mem_of_getElem? hfi, hc⟩
          rw [this] at k
          exact k _ e5
        | false =>
          refine iteF ⟨e5, (Sm.at (.new ng) (Sm.at (.new npp) hf4')), ?_, _, _, _, _, _, rfl⟩
          rw [take_snoc hfi, List.any_append, hany]
          simp [hc]
    · rintro σ H2 ⟨e2, hf2, hany, y2, y3, y4, y5, y7, rfl⟩
      rw [show (vtx (fourL l)).length = (fourL l).length by rw [vtx, List.length_map], List.take_length] at hany
      rw [hany] at k
      exact k H2 e2
end
end K20
set_option Elab.async false
set_option linter.all false
set_option maxRecDepth 100000
set_option maxHeartbeats 4000000
namespace K20
open PySem PySem.Spec PyProof.Rows L2 Nf
section
/-! ### keywords alone, told from the last parameter to the first -/
theorem vals_rev : ∀ {vs : List V} {us : List Value}, Vals vs us → Vals vs.reverse us.reverse
  | _, _, .nil => .nil
  | _, _, .cons r t => by
    rw [List.reverse_cons, List.reverse_cons]
    exact (vals_rev t).append (.cons r .nil)
theorem kbn_rev {K : PySem.W.Frag} {x : Str} {st : Stmt} {f : Addr} {fd : FuncData} {ps ks : List Str} (F : Fun K x x st f fd)
    (h : ∀ (kV doc pm : Value) (an : Option Addr) (cdv ct : Value) (ws : List Value), ws.length = ks.length → bindArgs (PySem.W.fnOf x x (defArgs st) (defBody st) (defScope st) .none kV doc pm an cdv ct) ⟨[], ks.zip ws⟩ = pure (ps.zip ws.reverse)) :
    KBn K fd ps 0 ks (fun _ ws => ws.reverse) (fun _ zs => zs.reverse) := by
  obtain ⟨oc, od, kV, doc, pm, an, cdv, ct, osl, rfl, lk, hcd⟩ := F.ex
  refine ⟨fun s us ws hk hu hw => ?_, fun _ r => vals_rev r⟩
  obtain rfl : us = [] := List.eq_nil_of_length_eq_zero hu
  exact .of_eq (h kV doc pm an cdv ct ws hw)
/-! ### repr of data, where nothing is being shown -/
def rReprG (K : PySem.W.Frag) : List V → Hp → VK → Prop := fun xs H Q => ∃ (a : Addr) (d : PyData), xs = [.ref a] ∧ Dp K H (.ref a) d ∧ d.showable = true ∧ d.hasDict = false ∧ d.depth ≤ 60 ∧ d.shown.length ≤ sizeLine ∧ Q (.str d.shown) H
theorem call_reprG {X : Cx} {K : PySem.W.Frag} (hg : X.A.guards = some []) (hu : X.A.units + 64 < cLine) (hK : X.K = K := by rfl) : CallR X (.builtin "repr") (rReprG K) := by
  subst hK
  intro pins s σ H xs us Q I r h
  obtain ⟨a, d, rfl, hd, h1, h2, h3, h4, q⟩ := h
  obtain ⟨u, rfl, rv⟩ := vals1 r
  obtain rfl : u = Value.ref a := rv
  obtain ⟨as, rd⟩ := Dp.reads I d _ _ hd rfl
  exact repr_of_reads' rd h1 (fun e => by rw [h2] at e; cases e) hg (by omega) (fun _ _ e => e) (fun h' u tk hk => ⟨.str d.shown, H, I.kept hk, ⟨_, rfl⟩, q⟩) h4
/-! ### a promise under which nothing is being shown -/
structure FnOkG (P : Program) (w : World) (K : PySem.W.Frag) (mg : Str → Option Value) (base : Heap) (k : Nat) (f : Addr) (fd : FuncData) (ps : List Str) (sp : Sp) : Prop where
  len : ∀ vs H Q E, sp vs H Q E → vs.length = ps.length
  run : ∀ (A : Around) (outer : List Env) (s : Shared) (H : Hp) (args : Args) (us : List Value) (vs : List V) (Q : VK) (E : XK), Room k A → A.guards = some [] → Env0 P w K mg base A outer s H → BindsTo s fd args (ps.zip us) → Vals vs us → sp vs H Q E →
    codeAny (model P w) A (.call (.ref f) args) (CR CX0 outer P w H s Q E) s
/-- a def whose code object stands at c -/
structure FunC (K : PySem.W.Frag) (x : Str) (st : Stmt) (f : Addr) (fd : FuncData) (c : Addr) : Prop where
  ex : ∃ (oc : Value) (od : Option Addr) (kV doc pm : Value) (an : Option Addr) (ct : Value) (osl : Array (Option Value)),
    fd = PySem.W.fnOf x x (defArgs st) (defBody st) (defScope st) .none kV doc pm an (.ref c) ct ∧ K.lookup f = some ⟨oc, od, .func (PySem.W.fnOf x x (defArgs st) (defBody st) (defScope st) .none kV doc pm an (.ref c) ct), osl⟩ ∧ PySem.W.codeIn K (.ref c) x = true
  kp : PySem.W.keepIn K (.ref f) = true
theorem FunC.okG {P : Program} {w : World} {K : PySem.W.Frag} {mg : Str → Option Value} {base : Heap} {x : Str} {st : Stmt} {f c : Addr} {fd : FuncData} {N ps : List Str} {k : Nat} {sp : Sp} (F : FunC K x st f fd c) (S : FnScope N ps (defScope st)) (len : ∀ vs H Q E, sp vs H Q E → vs.length = ps.length)
    (hbody : ∀ (A : Around) (outer : List Env) (s : Shared) (H : Hp) (vs : List V) (Q : VK) (E : XK), Room k (A.deeper (envOfC x (defScope st) s.heap.objs.size f (.ref c))) → (A.deeper (envOfC x (defScope st) s.heap.objs.size f (.ref c))).guards = some [] → sp vs H Q E →
      ∃ t, PSs (cxOf CX0 P w K mg base N x (defScope st) f (.ref c) A outer s H E).nox (defBody st) t ∧ t { nx := fun _ H' => Q .non H', rt := Q } (L2.start N vs) H) : FnOkG P w K mg base (k + 1) f fd ps sp := by
  obtain ⟨oc, od, kV, doc, pm, an, ct, osl, rfl, lk, hcd⟩ := F.ex
  refine ⟨len, fun A outer s H args us vs Q E hr hg e0 hb r h => ?_⟩
  exact LamX.run_ofS lk hcd S hr e0 hb r (len _ _ _ _ h) fun hr' => by
    obtain ⟨t, ht, hq⟩ := hbody A outer s H vs Q E hr' hg h
    exact ⟨t, ht.nox, hq⟩
structure CanG (P : Program) (w : World) (K : PySem.W.Frag) (mg : Str → Option Value) (base : Heap) (k : Nat) (x : Str) (ps : List Str) (sp : Sp) : Prop where
  ex : ∃ f fd, mg x = some (.ref f) ∧ PySem.W.keepIn K (.ref f) = true ∧ Binds K fd ps [] ∧ FnOkG P w K mg base k f fd ps sp
theorem pe_canG {X : Cx} {k : Nat} {x : Str} {ps : List Str} {sp : Sp} {p pos : Pos} {e : Expr} {es : List Expr} {t : TA} (c : CanG X.prog X.w X.K X.mg X.base k x ps sp) (hr : Room k X.A) (hgd : X.A.guards = some []) (ha : PA X (e :: es) t) (hg : Gl X x := by rfl) (hdb : (x == ("__debug__" : Str)) = false := by decide)
    (he : starEach (e :: es) X.env = (false, eval e X.env) :: starEach es X.env := by rfl) (hpl : (backTo pos (starEach es X.env)).any (·.1) = false := by rfl) : PE X (.Call (.Name x p) (e :: es) [] pos) (tCall sp [] E0 t) := by
  obtain ⟨f, fd, hm, kp, hb, ok⟩ := c.ex
  refine ⟨fun pins s σ H Q I h => wpAny_Call_Name_kw (ld_glob I hg hm (PySem.W.callWith_K (h₀ := X.base) I.ok.mod.kin kp (thn (ha.run pos pins s σ H _ I h) fun us s1 ⟨vs, H1, I1, r, q⟩ => ⟨I1.kIn, ?_⟩) he hpl) hdb)⟩
  have q' : sp vs H1 Q E0 := by rw [← List.append_nil vs]; exact q
  have hl : us.length = ps.length := by rw [← r.length]; exact ok.len _ _ _ _ q'
  have bd := hb s1 us I1.kIn (by rw [List.append_nil]; exact hl)
  rw [List.append_nil] at bd
  refine wpAny_call (codeAny_mono (ok.run X.A X.stack s1 H1 ⟨us, []⟩ us vs Q E0 hr hgd I1.env0 bd r q') fun rr s2 hq => ?_)
  match rr, hq with
  | .error _, hq => exact (show False from hq).elim
  | .ok (.ret u), hq => exact I1.after hq
  | .ok .next, hq => exact (show False from hq).elim
  | .ok .brk, hq => exact (show False from hq).elim
  | .ok .cont, hq => exact (show False from hq).elim
/-! ### heard -/
def THeard : (XK → Hp → VK → Prop) → Hp → VK → Prop := fun tl H Q => tl (fun _ _ _ => False) H fun v H1 => ∃ x, (some (some v) : Option (Option V)) = some (some x) ∧ [V.str "told", x].length ≤ sizeLine ∧ ∀ p, H1 p = none → Q (.ref p) (upd H1 p (.lst [.str "told", x]))
theorem heard_gives {X : Cx} {g : Addr} {cdg : Value} {q : Str} : LamX.GivesTo X N_law_heard "_law_heard" (defScope s_law_heard) g cdg (defBody s_law_heard) "_law_act" q THeard := by
  intro f c' s H Q tl act hc h
  refine ⟨_, pss_cons (ps_try_thru0 (pss_one (ps_set (i := 1) sc_law_heard.nd rfl (Or.inl rfl) (act (fun _ _ _ _ => False) [] (fun _ _ => False) (fun _ _ _ => False) _ _ LamX.takes0 (fun _ _ _ _ h => h))))) (pss_one (ps_ret (pe_lst (pa_cons pe_str (pa_cons (pv 1) pa_nil))))), ?_⟩
  exact ⟨rfl, hc, h⟩
structure Heard (K : PySem.W.Frag) (mg : Str → Option Value) : Prop where
  ex : ∃ g fd, mg "_law_heard" = some (.ref g) ∧ Fun K "_law_heard" "_law_heard" s_law_heard g fd ∧ Binds K fd ["_law_act"] []
theorem pe_heard {X : Cx} {k : Nat} {c P : Addr} {q : Str} {params : Arguments} {body : Expr} {scope : Scope} {t : XK → TE} {p lpos pos : Pos} (h : Heard X.K X.mg) (TB : LamX.TabB X.base X.mg c P) (hcode : X.env.code = .ref c) (hq : X.env.qual ++ "<lambda>" = q) (hr : Room (k + 2) X.A) (L : LamX.LamS X.env.scope scope)
    (hbody : ∀ (A : Around) (outer : List Env) (s : Shared) (H : Hp) (E : XK) (f c' : Addr), Room k (A.deeper (LamX.lamEnv X scope s.heap.objs.size f c')) → PE (LamX.lamCx X A outer s H E scope f c') body (t E))
    (hg : Gl X "_law_heard" := by rfl) (hdef : defaultsOf params X.env = ([], []) := by rfl) (hbind : ∀ (q : Str) (cl : List (Str × Addr)) (pm cv ctv : Value), bindArgs (PySem.W.kla_fn "<lambda>" q params body scope cl pm cv ctv) ⟨[], []⟩ = pure [] := by intro _ _ _ _ _; rfl) :
    PE X (.Call (.Name "_law_heard" p) [.Lambda params body scope lpos] [] pos) (LamX.tLam [(P, q)] THeard t) := by
  subst hq
  obtain ⟨g, fd, hm, F, hb⟩ := h.ex
  obtain ⟨oc, od, kV, doc, pm, an, cdv, ct, osl, rfl, lk, hcd⟩ := F.ex
  exact LamX.pe_lamcall (T := [(P, X.env.qual ++ "<lambda>")]) hg hm F.kp lk hcd hb sc_law_heard rfl (Or.inl rfl) heard_gives TB hcode (List.mem_singleton.mpr rfl) (fun p hp _ => by rw [List.mem_singleton.mp hp]) hr L hdef hbind hbody
end
end K20
set_option Elab.async false
set_option linter.all false
set_option maxRecDepth 100000
set_option maxHeartbeats 4000000
namespace K20
open PySem PySem.Spec PyProof.Rows L2 Nf
section
/-! ### what stays where an urn and tables of code objects move -/
def ER (u : Addr) (H H' : Hp) : Prop := ∀ a o, H a = some o → a ≠ u → (∀ ps, o ≠ .tbl ps) → H' a = some o
theorem ER.refl (u : Addr) (H : Hp) : ER u H H := fun _ _ h _ _ => h
theorem ER.trans {u : Addr} {H H1 H2 : Hp} (a : ER u H H1) (b : ER u H1 H2) : ER u H H2 := fun x o h n t => b x o (a x o h n t) n t
theorem ER.of {u : Addr} {H H' : Hp} (e : Ext (mU u) H H') : ER u H H' := fun a o h n _ => e.at (mU_ne n) h
theorem ER.sm {u : Addr} {H H' : Hp} (e : Sm H H') : ER u H H' := fun a o h _ _ => e a o h
theorem ER.mut {u : Addr} {H H' : Hp} {p : Addr} {o : HO} (e : ER u H H') (h : H p = none) : ER u H (upd H' p o) := fun a o' ha n t => by
  rw [upd_ne (ne_of_none ha h)]
  exact e a o' ha n t
theorem ER.fresh {u : Addr} {H H' : Hp} {p : Addr} (e : ER u H H') (hp : p ≠ u) (ht : ∀ ps, H p ≠ some (.tbl ps)) (h : H' p = none) : H p = none := by
  cases q : H p with
  | none => rfl
  | some o =>
    rw [e p o q hp fun ps z => ht ps (by rw [q, z])] at h
    cases h
/-- the urn stands, the tables are as they should be -/
structure Rt (u : Addr) (T : List (Addr × Str)) (H : Hp) : Prop where
  urn : UrnO H u
  tab : LamX.Tabs T H
theorem Rt.step {u : Addr} {T : List (Addr × Str)} {H H' : Hp} (r : Rt u T H) (e : Ext (mU u) H H') : Rt u T H' := by
  refine ⟨r.urn.ext e, fun p hp => ?_⟩
  obtain ⟨o, ho, a, b, rfl, _⟩ := r.urn
  obtain ⟨ps, h1, h2, h3⟩ := r.tab p hp
  have n1 : p.1 ≠ u := fun z => by rw [z, ho] at h1; cases h1
  refine ⟨ps, e.at (mU_ne n1) h1, h2, fun pos cv hc => ?_⟩
  obtain ⟨c, e1, e2⟩ := h3 pos cv hc
  have n2 : c ≠ u := fun z => by
    rw [z, ho] at e2
    unfold LamX.CodeO at e2
    cases e2
  exact ⟨c, e1, e.at (mU_ne n2) e2⟩
theorem Rt.sm {u : Addr} {T : List (Addr × Str)} {H H' : Hp} (r : Rt u T H) (e : Sm H H') : Rt u T H' := r.step (Sm.ext e)
theorem Rt.lam {u : Addr} {T : List (Addr × Str)} {H H' : Hp} (r : Rt u T H) (e : LamX.ExtN H H') (t : LamX.Tabs T H') : Rt u T H' := by
  obtain ⟨o, ho, a, b, rfl, g⟩ := r.urn
  exact ⟨⟨_, e u _ ho (fun ps z => by cases z), a, b, rfl, g⟩, t⟩
theorem ER.lam {u : Addr} {H H' : Hp} (e : LamX.ExtN H H') : ER u H H' := fun a o h _ t => e a o h t
theorem ER.back {u : Addr} {H H1 H2 : Hp} {p : Addr} {o o' : HO} (e : ER u H H1) (n : H1 p = none) (e' : ER u (upd H1 p o) H2) : ER u H (upd H2 p o') := fun a oa ha na ta => by
  have h1 := e a oa ha na ta
  have hne : a ≠ p := ne_of_none h1 n
  rw [upd_ne hne]
  exact e' a oa (by rw [upd_ne hne]; exact h1) na ta
/-! ### one thing asked twice and held against what is right -/
def toldD (d : PyData) : PyData := .list [.list [.str "told", d], .list [.str "told", d]]
structure Shw (d : PyData) : Prop where
  sh : (toldD d).showable = true
  hd : (toldD d).hasDict = false
  dp : (toldD d).depth ≤ 60
  sz : (toldD d).shown.length ≤ sizeLine
/-- the same, lists aside -/
def EN (u : Addr) (H H' : Hp) : Prop := ∀ a o, H a = some o → a ≠ u → (∀ ps, o ≠ .tbl ps) → (∀ xs, o ≠ .lst xs) → H' a = some o
theorem EN.trans {u : Addr} {H H1 H2 : Hp} (a : EN u H H1) (b : EN u H1 H2) : EN u H H2 := fun x o h n t l => b x o (a x o h n t l) n t l
theorem ER.en {u : Addr} {H H' : Hp} (e : ER u H H') : EN u H H' := fun a o h n t _ => e a o h n t
/-- v is shown as d, from H on -/
def Res (K : PySem.W.Frag) (u : Addr) (H : Hp) (v : V) (d : PyData) : Prop := ∀ H', EN u H H' → Dp K H' v d
theorem Res.er {K : PySem.W.Frag} {u : Addr} {H H1 : Hp} {v : V} {d : PyData} (r : Res K u H v d) (e : EN u H H1) : Res K u H1 v d := fun H' e' => r H' (e.trans e')
theorem Res.bl {K : PySem.W.Frag} {u : Addr} {H : Hp} (b : Bool) : Res K u H (.bl b) (.bool b) := fun _ _ => .bl b
abbrev E9 : XK := fun _ _ _ => False
theorem check3 {K : PySem.W.Frag} {u : Addr} {T : List (Addr × Str)} {t1 t2 : XK → TE} {tr : TE} {D : Ends} {σ : L2.St} {H : Hp} {d : PyData} (h6 : 6 < σ.length) (hR : Rt u T H) (hd : Shw d)
    (b1 : ∀ H1 (Q : VK), Rt u T H1 → ER u H H1 → (∀ v H2, Rt u T H2 → ER u H1 H2 → Res K u H2 v d → Q v H2) → t1 E9 σ H1 Q)
    (b2 : ∀ bk H1 (Q : VK), Rt u T H1 → ER u H H1 → (∀ v H2, Rt u T H2 → ER u H1 H2 → Res K u H2 v d → Q v H2) → t2 E9 (σ.set 6 (some (.ref bk))) H1 Q)
    (b3 : ∀ bk H1 (Q : VK), Rt u T H1 → ER u H H1 → (∀ v H2, Rt u T H2 → ER u H1 H2 → Res K u H2 v d → Q v H2) → tr (σ.set 6 (some (.ref bk))) H1 Q)
    (k : ∀ bk H', Rt u T H' → ER u H H' → D.nx (σ.set 6 (some (.ref bk))) H') :
    tSeq (tAsg (tLst (tCons (LamX.tLam T THeard t1) tNil)) (gName 6)) (tSeq (tDrop (tBM K "list" rAppend (tVar 6) (tCons (LamX.tLam T THeard t2) tNil)))
      (tIfS (tTest (tOp rNe (tCB (rReprG K) (tCons (tVar 6) tNil)) (tCB (rReprG K) (tCons (tOp rRep (tLst (tCons (tLst (tCons (tC (.str "told")) (tCons tr tNil))) tNil)) (tC (.int 2))) tNil)))) (tRet (tC (.bl false))) tNext)) D σ H := by
  have s1 : ∀ {n : Nat}, n ≤ 1000000 → n ≤ sizeLine := fun h => sz5 h
  have g6 : ∀ bk : Addr, (σ.set 6 (some (V.ref bk)))[6]? = some (some (V.ref bk)) := fun bk => by rw [List.getElem?_set_self h6]
  refine ⟨hR.tab, fun H1 n1 T1 => ?_⟩
  refine b1 H1 _ (hR.lam n1 T1) (.lam n1) (fun v1 H2 hR2 e2 r1 => ⟨v1, rfl, s1 (by show 2 ≤ 1000000; decide), fun p1 np1 => ⟨s1 (by show 1 ≤ 1000000; decide), fun bk nbk => ?_⟩⟩)
  have e02 : ER u H H2 := (ER.lam n1).trans e2
  have e2p : Sm H2 (upd H2 p1 (.lst [.str "told", v1])) := .new np1
  have hRp := hR2.sm e2p
  have e0p : ER u H (upd H2 p1 (.lst [.str "told", v1])) := e02.trans (.sm e2p)
  have epb : Sm (upd H2 p1 (.lst [.str "told", v1])) (upd (upd H2 p1 (.lst [.str "told", v1])) bk (.lst [.ref p1])) := .new nbk
  have hRb := hRp.sm epb
  have p1u := hR2.urn.ne np1
  have bku := hRp.urn.ne nbk
  have p1b : p1 ≠ bk := fun z => by rw [← z, upd_same] at nbk; cases nbk
  have o1 : (upd (upd H2 p1 (.lst [.str "told", v1])) bk (.lst [.ref p1])) p1 = some (.lst [.str "told", v1]) := by rw [upd_ne p1b]; exact upd_same
  refine ⟨_, g6 bk, .inl ⟨rfl, _, SqL.of upd_same⟩, hRb.tab, fun H4 n4 T4 => ?_⟩
  refine b2 bk H4 _ (hRb.lam n4 T4) (e0p.trans ((ER.sm epb).trans (.lam n4))) (fun v2 H5 hR5 e5 r2 => ⟨v2, rfl, s1 (by show 2 ≤ 1000000; decide), fun p2 np2 => ?_⟩)
  have e45 : ER u (upd (upd H2 p1 (.lst [.str "told", v1])) bk (.lst [.ref p1])) H5 := (ER.lam n4).trans e5
  have o1' := e45 p1 _ o1 p1u (fun ps z => by cases z)
  have ob := e45 bk _ upd_same bku (fun ps z => by cases z)
  have p2u := hR5.urn.ne np2
  have e5p : Sm H5 (upd H5 p2 (.lst [.str "told", v2])) := .new np2
  have p2b : p2 ≠ bk := fun z => by rw [z, ob] at np2; cases np2
  have p12 : p1 ≠ p2 := fun z => by rw [← z, o1'] at np2; cases np2
  have obp := Sm.at e5p ob
  refine ⟨bk, _, _, rfl, rfl, obp, by rw [sizeLine_eq]; show 1 < _; decide, ?_⟩
  -- the list is whole
  have eb : ER u (upd (upd H2 p1 (.lst [.str "told", v1])) bk (.lst [.ref p1])) (upd H5 p2 (.lst [.str "told", v2])) := e45.trans (.sm e5p)
  have e06 : ER u H (upd (upd H5 p2 (.lst [.str "told", v2])) bk (.lst ([.ref p1] ++ [.ref p2]))) := e0p.back nbk eb
  have e26 : ER u H2 (upd (upd H5 p2 (.lst [.str "told", v2])) bk (.lst ([.ref p1] ++ [.ref p2]))) := (ER.sm e2p).back nbk eb
  have q1 : (upd (upd H5 p2 (.lst [.str "told", v2])) bk (.lst ([.ref p1] ++ [.ref p2]))) p1 = some (.lst [.str "told", v1]) := by rw [upd_ne p1b]; exact Sm.at e5p o1'
  have q2 : (upd (upd H5 p2 (.lst [.str "told", v2])) bk (.lst ([.ref p1] ++ [.ref p2]))) p2 = some (.lst [.str "told", v2]) := by rw [upd_ne p2b]; exact upd_same
  have hR6 : Rt u T (upd (upd H5 p2 (.lst [.str "told", v2])) bk (.lst ([.ref p1] ++ [.ref p2]))) := by
    have hh := hR5.sm e5p
    obtain ⟨o, ho, g⟩ := hh.urn
    refine ⟨⟨o, by rw [upd_ne (Ne.symm bku)]; exact ho, g⟩, fun p hp => ?_⟩
    obtain ⟨ps, h1, h2, h3⟩ := hh.tab p hp
    have n1 : p.1 ≠ bk := fun z => by rw [z, obp] at h1; cases h1
    refine ⟨ps, by rw [upd_ne n1]; exact h1, h2, fun pos cv hc => ?_⟩
    obtain ⟨c, e1, e2⟩ := h3 pos cv hc
    have n2 : c ≠ bk := fun z => by
      rw [z, obp] at e2
      unfold LamX.CodeO at e2
      cases e2
    exact ⟨c, e1, by rw [upd_ne n2]; exact e2⟩
  generalize hH6 : upd (upd H5 p2 (.lst [.str "told", v2])) bk (.lst ([.ref p1] ++ [.ref p2])) = H6 at *
  have o6 : H6 bk = some (.lst [.ref p1, .ref p2]) := by rw [← hH6]; exact upd_same
  have e56 : EN u H5 H6 := fun a o ha na ta la => by
    have hb : a ≠ bk := fun z => by rw [z, ob] at ha; exact la _ (Option.some.inj ha).symm
    rw [← hH6, upd_ne hb]
    exact Sm.at e5p ha
  have told : ∀ {H' : Hp}, ER u H6 H' → Dp K H' (.ref bk) (toldD d) := fun {H'} e => by
    have a1 := e _ _ o6 bku (fun ps z => by cases z)
    have a2 := e _ _ q1 p1u (fun ps z => by cases z)
    have a3 := e _ _ q2 p2u (fun ps z => by cases z)
    exact .lst (SqL.of a1) (.cons (.lst (SqL.of a2) (.cons (.str _) (.cons (r1 _ (e26.en.trans e.en)) .nil))) (.cons (.lst (SqL.of a3) (.cons (.str _) (.cons (r2 _ (e56.trans e.en)) .nil))) .nil))
  refine ⟨_, g6 bk, bk, toldD d, rfl, told (.refl _ _), hd.sh, hd.hd, hd.dp, hd.sz, ?_⟩
  refine b3 bk H6 _ hR6 e06 (fun v3 H7 hR7 e7 r3 => ⟨s1 (by show 2 ≤ 1000000; decide), fun a1 na1 => ⟨s1 (by show 1 ≤ 1000000; decide), fun a2 na2 => ⟨a2, 2, _, rfl, rfl, upd_same, by decide, by decide, s1 (by show 2 ≤ 1000000; decide), fun a3 na3 => ?_⟩⟩⟩)
  have f1 : Sm H7 (upd H7 a1 (.lst [.str "told", v3])) := .new na1
  have f2 : Sm (upd H7 a1 (.lst [.str "told", v3])) (upd (upd H7 a1 (.lst [.str "told", v3])) a2 (.lst [.ref a1])) := .new na2
  have f3 : Sm (upd (upd H7 a1 (.lst [.str "told", v3])) a2 (.lst [.ref a1])) (upd (upd (upd H7 a1 (.lst [.str "told", v3])) a2 (.lst [.ref a1])) a3 (.lst (List.replicate (2 : Int).toNat [V.ref a1]).flatten)) := .new na3
  have w1 := Sm.at (f2.trans f3) (upd_same (H := H7) (a := a1) (o := HO.lst [.str "told", v3]))
  have w3 : (upd (upd (upd H7 a1 (.lst [.str "told", v3])) a2 (.lst [.ref a1])) a3 (.lst (List.replicate (2 : Int).toNat [V.ref a1]).flatten)) a3 = some (.lst [.ref a1, .ref a1]) := upd_same
  have e73 := (f1.trans f2).trans f3
  have r3' := r3 _ (ER.sm e73).en
  have inner : Dp K (upd (upd (upd H7 a1 (.lst [.str "told", v3])) a2 (.lst [.ref a1])) a3 (.lst (List.replicate (2 : Int).toNat [V.ref a1]).flatten)) (.ref a1) (.list [.str "told", d]) := .lst (SqL.of w1) (.cons (.str _) (.cons r3' .nil))
  refine ⟨a3, toldD d, rfl, .lst (SqL.of w3) (.cons inner (.cons inner .nil)), hd.sh, hd.hd, hd.dp, hd.sz, rfl, _, rfl, ?_⟩
  rw [decide_eq_true (rfl : V.str (toldD d).shown = V.str (toldD d).shown)]
  exact iteF (k bk _ (hR7.sm e73) ((e06.trans e7).trans (.sm e73)))
end
end K20
set_option Elab.async false
set_option linter.all false
set_option maxRecDepth 100000
set_option maxHeartbeats 4000000
namespace K20
open PySem PySem.Spec PyProof.Rows L2 Nf
section
/-! ### lots of a row are partings of it -/
theorem comb_sub : ∀ (r : Nat) (l x : List Nat), x ∈ combIx r l → x.Sublist l
  | 0, l, x, h => by
    have : x = [] := by simpa [combIx] using h
    rw [this]; exact List.nil_sublist l
  | r + 1, [], x, h => by simp [combIx] at h
  | r + 1, a :: l, x, h => by
    rw [combIx, List.mem_append] at h
    rcases h with h | h
    · obtain ⟨y, hy, rfl⟩ := List.mem_map.mp h
      exact (comb_sub r l y hy).cons₂ a
    · exact (comb_sub (r + 1) l x h).cons a
theorem filter_sub {v m : List Nat} (s : v.Sublist m) : m.Nodup → m.filter (fun c => decide (c ∈ v)) = v := by
  induction s with
  | slnil => intro _; rfl
  | @cons v m a s ih =>
    intro h
    rw [List.nodup_cons] at h
    have : a ∉ v := fun q => h.1 (s.subset q)
    rw [List.filter_cons, if_neg (by simpa using this)]
    exact ih h.2
  | @cons_cons v m a s ih =>
    intro h
    rw [List.nodup_cons] at h
    rw [List.filter_cons, if_pos (by simp)]
    congr 1
    rw [← ih h.2]
    refine List.filter_congr fun c hc => ?_
    have hne : c ≠ a := fun q => h.1 (q ▸ hc)
    have e := ih h.2
    rw [e]
    exact decide_eq_decide.mpr ⟨fun q => (List.mem_cons.mp q).resolve_left hne, fun q => List.mem_cons_of_mem _ q⟩
theorem lot_comb {r : Nat} {l x : List Nat} (hn : l.Nodup) (h : x ∈ combIx r l) : isLotM x l = true := by
  unfold isLotM
  exact decide_eq_true (filter_sub (comb_sub r l x h) hn).symm
theorem pair_comb {l x : List Nat} (hn : l.Nodup) (h : x ∈ combIx 2 l) : isPairM x l = true := by
  unfold isPairM
  rw [lot_comb hn h, combIx_len _ _ _ h]; rfl
theorem drop_nd {l : List Nat} (h : l.Nodup) : (l.drop 1).Nodup := (List.drop_sublist 1 l).nodup h
theorem lots_part {l x : List Nat} (hn : l.Nodup) (hl : l.length ≤ 7) (h : x ∈ srt (lotsL (l.drop 1))) : isPartingM x l = true ∧ x.length ≤ 7 := by
  have h := (srt_perm _).mem_iff.mp h
  unfold lotsL at h
  obtain ⟨k, hk, hx⟩ := List.mem_flatMap.mp h
  have hk := List.mem_range.mp hk
  rw [List.length_drop] at hk
  have e := combIx_len _ _ _ hx
  unfold isPartingM
  rw [lot_comb (drop_nd hn) hx, e]
  exact ⟨by simp, by omega⟩
theorem lots_some {l : List Nat} (h : 2 ≤ l.length) : 0 < (srt (lotsL (l.drop 1))).length := by
  rw [(srt_perm _).length_eq]
  match l, h with
  | a :: b :: r, _ =>
    have : [b] ∈ lotsL (b :: r) := List.mem_flatMap.mpr ⟨0, List.mem_range.mpr (by simp), by rw [comb1]; simp⟩
    exact List.length_pos_of_mem this
theorem lots_len {l : List Nat} (h : l.length ≤ 7) : (srt (lotsL (l.drop 1))).length < 64 := by
  rw [(srt_perm _).length_eq]
  exact lots_small (by rw [List.length_drop]; omega)
theorem letters_ok : okL lettersL := by
  intro c hc
  have : ∀ c ∈ lettersL, c < 0x110000 := by decide +kernel
  exact this c hc
theorem lot_ok {l : List Nat} (h : isLotM l lettersL = true) : okL l := fun c hc => letters_ok c (lot_sub h c hc)
/-! ### what is shown -/
theorem show_by {d : PyData} (h1 : (toldD d).showable = true) (h2 : (toldD d).hasDict = false) (h3 : (toldD d).depth ≤ 60) (h4 : (toldD d).canLay0 = true) (h5 : (toldD d).weight ≤ 1048576) (h6 : (toldD d).intsShort 13 = true) : Shw d := by
  refine ⟨h1, h2, h3, ?_⟩
  have hl : (toldD d).layable0 = true := by
    unfold PyData.layable0
    rw [h4, decide_eq_true (Nat.le_trans h3 (by decide)), decide_eq_true (show (toldD d).weight ≤ 2 ^ 20 from h5)]; rfl
  have := shown_le13 hl h6
  rw [sizeLine_eq]; omega
theorem shw_bl (b : Bool) : Shw (.bool b) := by
  cases b <;> exact show_by (by decide) (by decide) (by decide) (by decide +kernel) (by decide +kernel) (by decide)
theorem shw_txs {ls : List (List Nat)} (hl : ls.length ≤ 100) (ho : ∀ x ∈ ls, okL x ∧ x.length ≤ 7) : Shw (.tuple (dtx ls)) := by
  have h : ∀ ls : List (List Nat), (∀ x ∈ ls, okL x ∧ x.length ≤ 7) → PyData.showableAll (dtx ls) = true ∧ PyData.hasDictAll (dtx ls) = false ∧ PyData.depthAll (dtx ls) = 0 ∧ PyData.canLayAll0 (dtx ls) = true ∧ PyData.weightAll (dtx ls) ≤ 8 * ls.length ∧ PyData.intsShortAll 13 (dtx ls) = true := by
    intro ls
    induction ls with
    | nil => intro _; exact ⟨rfl, rfl, rfl, rfl, Nat.le_refl _, rfl⟩
    | cons x ls ih =>
      intro h
      obtain ⟨a1, a2, a3, a4, a5, a6⟩ := ih fun y hy => h y (List.mem_cons_of_mem _ hy)
      obtain ⟨b1, b2⟩ := h x List.mem_cons_self
      refine ⟨?_, ?_, ?_, ?_, ?_, ?_⟩
      · show (PyData.showable (.str (tx x)) && PyData.showableAll (dtx ls)) = true
        rw [a1]; rfl
      · show (PyData.hasDict (.str (tx x)) || PyData.hasDictAll (dtx ls)) = false
        rw [a2]; rfl
      · show max 0 (PyData.depthAll (dtx ls)) = 0
        rw [a3]; rfl
      · show (PyData.canLay0 (.str (tx x)) && PyData.canLayAll0 (dtx ls)) = true
        rw [b1.str, a4]; rfl
      · show (tx x).cps.size + 1 + PyData.weightAll (dtx ls) ≤ _
        rw [tx_size, List.length_cons]; omega
      · show (PyData.intsShort 13 (.str (tx x)) && PyData.intsShortAll 13 (dtx ls)) = true
        rw [a6]; rfl
  obtain ⟨a1, a2, a3, a4, a5, a6⟩ := h ls ho
  have t1 : PyData.showable (.tuple (dtx ls)) = true := a1
  have t2 : PyData.hasDict (.tuple (dtx ls)) = false := a2
  have t3 : PyData.depth (.tuple (dtx ls)) = 1 := by show PyData.depthAll (dtx ls) + 1 = 1; rw [a3]
  have t4 : PyData.canLay0 (.tuple (dtx ls)) = true := a4
  have t5 : PyData.weight (.tuple (dtx ls)) ≤ 8 * ls.length := a5
  have t6 : PyData.intsShort 13 (.tuple (dtx ls)) = true := a6
  refine show_by ?_ ?_ ?_ ?_ ?_ ?_
  · simp [toldD, PyData.showable, PyData.showableAll] at t1 ⊢; exact t1
  · simp [toldD, PyData.hasDict, PyData.hasDictAll] at t2 ⊢; exact t2
  · simp only [toldD, PyData.depth, PyData.depthAll] at t3 ⊢; omega
  · simp only [toldD, PyData.canLay0, PyData.canLayAll0, Bool.and_true] at t4 ⊢; rw [t4]; decide +kernel
  · simp only [toldD, PyData.weight, PyData.weightAll] at t5 ⊢
    have : ("told" : Str).cps.size = 4 := rfl
    omega
  · simp only [toldD, PyData.intsShort, PyData.intsShortAll, Bool.and_true] at t6 ⊢; rw [t6]; rfl
theorem seq3 {A B C R : TS} {D : Ends} {σ : L2.St} {H : Hp} (h : tSeq A (tSeq B C) { D with nx := R D } σ H) : tSeq A (tSeq B (tSeq C R)) D σ H := h
end
end K20
set_option Elab.async false
set_option linter.all false
set_option maxRecDepth 100000
set_option maxHeartbeats 8000000
namespace K20
open PySem PySem.Spec PyProof.Rows L2 Nf
section
theorem Tb.er {C u : Addr} {H H' : Hp} {t : Addr} {l : List Nat} (h : Tb C H t l) (e : ER u H H') (n : t ≠ u) : Tb C H' t l := by
  obtain ⟨dx, fs, h1, h2⟩ := h
  exact ⟨dx, fs, e t _ h1 n (fun ps z => by cases z), h2⟩
variable {P : Program} {w : World} {K : PySem.W.Frag} {mg : Str → Option Value} {base : Heap} {C : Addr} {f : Addr} {fd : FuncData}
abbrev lamQ : Str := "_law_right.<locals>.<lambda>"
def sp_right (Tp : Addr) : Sp := fun vs H Q _ => ∃ u : Addr, vs = [.ref u] ∧ Rt u [(Tp, lamQ)] H ∧ ∀ H', Rt u [(Tp, lamQ)] H' → ER u H H' → Q (.bl true) H'
theorem ok_right {c Tp : Addr} (F : FunC K "_law_right" s_law_right f fd c) (T : Txt K mg C) (TB : LamX.TabB base mg c Tp) (CH : Heard K mg)
    (C__law_world : Can P w K mg base 4 "_law_world" s_law_world ["_law_urn_here", "_law_least", "_law_most"] sp_world) (C__law_made : Can P w K mg base 7 "_law_made" s_law_made ["_law_names_here", "_law_far"] (sp_made C))
    (C__law_lots : Can P w K mg base 1 "_law_lots" s_law_lots ["_law_names_here"] sp_lots) (C__law_twos : Can P w K mg base 1 "_law_twos" s_law_twos ["_law_names_here"] sp_twos) (C__law_pick : Can P w K mg base 2 "_law_pick" s_law_pick ["_law_urn_here", "_law_items"] (sp_pick K))
    (C__law_splits : Can P w K mg base 1 "_law_splits" s_law_splits ["_law_lot", "_law_two"] (sp_splits2 K)) (C__law_do_cross : Can P w K mg base 1 "_law_do_cross" s_law_do_cross ["_law_names_here", "_law_one", "_law_two"] sp_do_cross)
    (C__law_do_clash : Can P w K mg base 2 "_law_do_clash" s_law_do_clash ["_law_names_here", "_law_lots_here"] sp_do_clash) (C_partings : Can P w K mg base 3 "partings" s_partings ["table"] (sp_partings C))
    (C_parts : Can P w K mg base 4 "parts" s_parts ["table", "parting", "pair"] (sp_parts C)) (C_cross : Can P w K mg base 4 "cross" s_cross ["table", "parting", "other_parting"] (sp_cross C))
    (C_clash : Can P w K mg base 4 "clash" s_clash ["table", "parting", "other_parting", "third_parting"] (sp_clash C)) : FnOkG P w K mg base 8 f fd ["_law_urn_here"] (sp_right Tp) := by
  have kb_partings : ∀ f fd, Fun K "partings" "partings" s_partings f fd → KBn K fd ["table"] 0 ["table"] (fun _ ws => ws.reverse) (fun _ zs => zs.reverse) := fun f fd F => kbn_rev F fun kV doc pm an cdv ct ws hl => match ws, hl with | [_], _ => rfl
  have kb_parts : ∀ f fd, Fun K "parts" "parts" s_parts f fd → KBn K fd ["table", "parting", "pair"] 0 ["pair", "parting", "table"] (fun _ ws => ws.reverse) (fun _ zs => zs.reverse) := fun f fd F => kbn_rev F fun kV doc pm an cdv ct ws hl => match ws, hl with | [_, _, _], _ => rfl
  have kb_cross : ∀ f fd, Fun K "cross" "cross" s_cross f fd → KBn K fd ["table", "parting", "other_parting"] 0 ["other_parting", "parting", "table"] (fun _ ws => ws.reverse) (fun _ zs => zs.reverse) := fun f fd F => kbn_rev F fun kV doc pm an cdv ct ws hl => match ws, hl with | [_, _, _], _ => rfl
  have kb_clash : ∀ f fd, Fun K "clash" "clash" s_clash f fd → KBn K fd ["table", "parting", "other_parting", "third_parting"] 0 ["third_parting", "other_parting", "parting", "table"] (fun _ ws => ws.reverse) (fun _ zs => zs.reverse) := fun f fd F => kbn_rev F fun kV doc pm an cdv ct ws hl => match ws, hl with | [_, _, _, _], _ => rfl
  refine F.okG sc_law_right (fun vs H Q E h => ?_) (fun A outer s H vs Q E hr hG h => ?_)
  · obtain ⟨_, rfl, _⟩ := h; rfl
  · obtain ⟨u, rfl, hR, k⟩ := h
    refine ⟨_, (pss_cons (ps_for PassesOwn.never rfl (pi_range1 (by rfl) T.range (pa_cons pe_int pa_nil)) (pg_name (i := 1) sc_law_right.nd rfl (Or.inl rfl) (Or.inr rfl))
      (pss_cons (ps_asg (pe_can C__law_world (hr.mono (by decide)) (pa_cons (pv 0) (pa_cons pe_int (pa_cons pe_int pa_nil)))) (pg_tup2K K rfl (pgs_cons (pg_name (i := 2) sc_law_right.nd rfl (Or.inl rfl) (Or.inr rfl)) (pgs_cons (pg_name (i := 3) sc_law_right.nd rfl (Or.inl rfl) (Or.inr rfl)) pgs_nil))))
      (pss_cons (ps_asg (pe_tup (pa_cons (pe_can C__law_made (hr.mono (by decide)) (pa_cons (pv 2) (pa_cons (pv 3) pa_nil))) (pa_cons (pe_can C__law_lots (hr.mono (by decide)) (pa_cons (pv 2) pa_nil)) pa_nil))) (pg_tup2K K rfl (pgs_cons (pg_name (i := 4) sc_law_right.nd rfl (Or.inr rfl) (Or.inl rfl)) (pgs_cons (pg_name (i := 5) sc_law_right.nd rfl (Or.inl rfl) (Or.inr rfl)) pgs_nil))))
      (pss_cons (ps_set (i := 6) sc_law_right.nd rfl (Or.inl rfl) (pe_lst (pa_cons (pe_heard (k := 3) CH TB rfl rfl (hr.mono (by decide)) (LamX.lamS_by (sc := defScope s_law_right) (by decide +kernel)) (fun A outer s H E f c' hr2 => (pe_can C_partings hr2 (pa_cons (pv 4) pa_nil)))) pa_nil)))
      (pss_cons (ps_expr (pe_atK K (pe_bm PySem.F.plainAttrs_list PySem.F.slot_list_append PySem.F.type_list_append mt_append (pv 6) (pa_cons (pe_heard (k := 3) CH TB rfl rfl (hr.mono (by decide)) (LamX.lamS_by (sc := defScope s_law_right) (by decide +kernel)) (fun A outer s H E f c' hr2 => (pe_canK C_partings hr2 kb_partings (pk_cons (pv 4) pk_nil)))) pa_nil))))
      (pss_cons (ps_if (pt_cmpR op_ne (pe_callB (call_reprG hG hr.units) (by rfl) T.repr (by decide +kernel) (pa_cons (pv 6) pa_nil)) (pe_callB (call_reprG hG hr.units) (by rfl) T.repr (by decide +kernel) (pa_cons (pe_op op_rep (pe_lst (pa_cons (pe_lst (pa_cons pe_str (pa_cons (pe_callTy (call_tuple_ofK K) (by rfl) T.tuple (by decide +kernel) (pa_cons (pv 5) pa_nil)) pa_nil))) pa_nil)) pe_int) pa_nil)) (nomark _)) (pss_one (ps_ret pe_bl)) pss_nil)
      (pss_cons (ps_for PassesOwn.never rfl (pi_listK K (pv 5)) (pg_name (i := 7) sc_law_right.nd rfl (Or.inr rfl) (Or.inl rfl))
      (pss_cons (ps_for PassesOwn.never rfl (pi_listK K (pe_can C__law_twos (hr.mono (by decide)) (pa_cons (pv 2) pa_nil))) (pg_name (i := 8) sc_law_right.nd rfl (Or.inr rfl) (Or.inl rfl))
      (pss_cons (ps_set (i := 6) sc_law_right.nd rfl (Or.inl rfl) (pe_lst (pa_cons (pe_heard (k := 4) CH TB rfl rfl (hr.mono (by decide)) (LamX.lamS_by (sc := defScope s_law_right) (by decide +kernel)) (fun A outer s H E f c' hr2 => (pe_can C_parts hr2 (pa_cons (pv 4) (pa_cons (pv 7) (pa_cons (pv 8) pa_nil)))))) pa_nil)))
      (pss_cons (ps_expr (pe_atK K (pe_bm PySem.F.plainAttrs_list PySem.F.slot_list_append PySem.F.type_list_append mt_append (pv 6) (pa_cons (pe_heard (k := 4) CH TB rfl rfl (hr.mono (by decide)) (LamX.lamS_by (sc := defScope s_law_right) (by decide +kernel)) (fun A outer s H E f c' hr2 => (pe_canK C_parts hr2 kb_parts (pk_cons (pv 8) (pk_cons (pv 7) (pk_cons (pv 4) pk_nil)))))) pa_nil))))
      (pss_one (ps_if (pt_cmpR op_ne (pe_callB (call_reprG hG hr.units) (by rfl) T.repr (by decide +kernel) (pa_cons (pv 6) pa_nil)) (pe_callB (call_reprG hG hr.units) (by rfl) T.repr (by decide +kernel) (pa_cons (pe_op op_rep (pe_lst (pa_cons (pe_lst (pa_cons pe_str (pa_cons (pe_can C__law_splits (hr.mono (by decide)) (pa_cons (pv 7) (pa_cons (pv 8) pa_nil))) pa_nil))) pa_nil)) pe_int) pa_nil)) (nomark _)) (pss_one (ps_ret pe_bl)) pss_nil)))))
      (pss_one (ps_for PassesOwn.never rfl (pi_listK K (pv 5)) (pg_name (i := 9) sc_law_right.nd rfl (Or.inr rfl) (Or.inl rfl))
      (pss_cons (ps_set (i := 6) sc_law_right.nd rfl (Or.inl rfl) (pe_lst (pa_cons (pe_heard (k := 4) CH TB rfl rfl (hr.mono (by decide)) (LamX.lamS_by (sc := defScope s_law_right) (by decide +kernel)) (fun A outer s H E f c' hr2 => (pe_can C_cross hr2 (pa_cons (pv 4) (pa_cons (pv 7) (pa_cons (pv 9) pa_nil)))))) pa_nil)))
      (pss_cons (ps_expr (pe_atK K (pe_bm PySem.F.plainAttrs_list PySem.F.slot_list_append PySem.F.type_list_append mt_append (pv 6) (pa_cons (pe_heard (k := 4) CH TB rfl rfl (hr.mono (by decide)) (LamX.lamS_by (sc := defScope s_law_right) (by decide +kernel)) (fun A outer s H E f c' hr2 => (pe_canK C_cross hr2 kb_cross (pk_cons (pv 9) (pk_cons (pv 7) (pk_cons (pv 4) pk_nil)))))) pa_nil))))
      (pss_one (ps_if (pt_cmpR op_ne (pe_callB (call_reprG hG hr.units) (by rfl) T.repr (by decide +kernel) (pa_cons (pv 6) pa_nil)) (pe_callB (call_reprG hG hr.units) (by rfl) T.repr (by decide +kernel) (pa_cons (pe_op op_rep (pe_lst (pa_cons (pe_lst (pa_cons pe_str (pa_cons (pe_can C__law_do_cross (hr.mono (by decide)) (pa_cons (pv 2) (pa_cons (pv 7) (pa_cons (pv 9) pa_nil)))) pa_nil))) pa_nil)) pe_int) pa_nil)) (nomark _)) (pss_one (ps_ret pe_bl)) pss_nil))))))))
      (pss_one (ps_for PassesOwn.never rfl (pi_range1 (by rfl) T.range (pa_cons pe_int pa_nil)) (pg_name (i := 10) sc_law_right.nd rfl (Or.inl rfl) (Or.inr rfl))
      (pss_cons (ps_asg (pe_tup (pa_cons (pe_can C__law_pick (hr.mono (by decide)) (pa_cons (pv 0) (pa_cons (pv 5) pa_nil))) (pa_cons (pe_can C__law_pick (hr.mono (by decide)) (pa_cons (pv 0) (pa_cons (pv 5) pa_nil))) (pa_cons (pe_can C__law_pick (hr.mono (by decide)) (pa_cons (pv 0) (pa_cons (pv 5) pa_nil))) pa_nil)))) (pg_tup3K rfl (pgs_cons (pg_name (i := 11) sc_law_right.nd rfl (Or.inr rfl) (Or.inl rfl)) (pgs_cons (pg_name (i := 8) sc_law_right.nd rfl (Or.inr rfl) (Or.inl rfl)) (pgs_cons (pg_name (i := 12) sc_law_right.nd rfl (Or.inr rfl) (Or.inl rfl)) pgs_nil)))))
      (pss_cons (ps_set (i := 6) sc_law_right.nd rfl (Or.inl rfl) (pe_lst (pa_cons (pe_heard (k := 4) CH TB rfl rfl (hr.mono (by decide)) (LamX.lamS_by (sc := defScope s_law_right) (by decide +kernel)) (fun A outer s H E f c' hr2 => (pe_can C_clash hr2 (pa_cons (pv 4) (pa_cons (pv 11) (pa_cons (pv 8) (pa_cons (pv 12) pa_nil))))))) pa_nil)))
      (pss_cons (ps_expr (pe_atK K (pe_bm PySem.F.plainAttrs_list PySem.F.slot_list_append PySem.F.type_list_append mt_append (pv 6) (pa_cons (pe_heard (k := 4) CH TB rfl rfl (hr.mono (by decide)) (LamX.lamS_by (sc := defScope s_law_right) (by decide +kernel)) (fun A outer s H E f c' hr2 => (pe_canK C_clash hr2 kb_clash (pk_cons (pv 12) (pk_cons (pv 8) (pk_cons (pv 11) (pk_cons (pv 4) pk_nil))))))) pa_nil))))
      (pss_one (ps_if (pt_cmpR op_ne (pe_callB (call_reprG hG hr.units) (by rfl) T.repr (by decide +kernel) (pa_cons (pv 6) pa_nil)) (pe_callB (call_reprG hG hr.units) (by rfl) T.repr (by decide +kernel) (pa_cons (pe_op op_rep (pe_lst (pa_cons (pe_lst (pa_cons pe_str (pa_cons (pe_can C__law_do_clash (hr.mono (by decide)) (pa_cons (pv 2) (pa_cons (pe_lst (pa_cons (pv 11) (pa_cons (pv 8) (pa_cons (pv 12) pa_nil)))) pa_nil))) pa_nil))) pa_nil)) pe_int) pa_nil)) (nomark _)) (pss_one (ps_ret pe_bl)) pss_nil))))))))))))))
      (pss_one (ps_ret pe_bl))), ?_⟩
    refine ⟨3, rfl, by decide, by decide, ?_⟩
    refine for_it (walk_range (lo := 0) (n := (3 : Int).toNat)) (fun i σ H' => Rt u [(Tp, lamQ)] H' ∧ ER u H H' ∧ ∃ y1 y2 y3 y4 y5 y6 y7 y8 y9 y10 y11 y12, σ = [some (.ref u), y1, y2, y3, y4, y5, y6, y7, y8, y9, y10, y11, y12]) ⟨hR, .refl _ _, _, _, _, _, _, _, _, _, _, _, _, _, rfl⟩ (fun _ _ _ _ _ => trivial) ?_ ?_
    · rintro i x σ H0 H0' hi ⟨hR0, e0, y1, y2, y3, y4, y5, y6, y7, y8, y9, y10, y11, y12, rfl⟩ ⟨rfl, hx⟩
      refine ⟨_, rfl, u, 2, 5, rfl, hR0.urn, by decide, by decide, by decide, fun t H1 l g kvs e1 nt ng ht hg hFG hNm => ⟨t, _, rfl, SqT.of ht, rfl, _, _, rfl, _, _, rfl, rfl, ?_⟩⟩
      have hlot := hNm.1
      have hl2 : 2 ≤ l.length := hNm.2.1
      have hl5 : l.length ≤ 5 := hNm.2.2
      have h7 : l.length ≤ 7 := by omega
      have hnd := lot_nd hlot
      have hR1 := hR0.step e1
      refine ⟨_, rfl, _, rfl, l, g, kvs, rfl, hlot, hl2, h7, hg, hFG, fun tb H2 e2 ntb hTb => ⟨_, rfl, l, rfl, h7, fun lt H3 e3 nlt hlt => ⟨sz5 (by show 2 ≤ 1000000; decide), fun tp ntp => ⟨tp, _, rfl, SqT.of upd_same, rfl, _, _, rfl, _, _, rfl, rfl, ?_⟩⟩⟩⟩
      have e34 : Sm H3 (upd H3 tp (.tup [.ref tb, .ref lt])) := .new ntp
      have tbu := hR1.urn.ne ntb
      have hR2 := hR1.sm e2
      have ltu := hR2.urn.ne nlt
      have hR3 := hR2.sm e3
      have hTb4 := (hTb.sm e3).sm e34
      have hlt4 := Sm.at e34 hlt
      have hR4 := hR3.sm e34
      have e04 : ER u H (upd H3 tp (.tup [.ref tb, .ref lt])) := ((e0.trans (.of e1)).trans (.sm e2)).trans ((ER.sm e3).trans (.sm e34))
      have hLL := fun z hz => lots_part (x := z) hnd h7 hz
      have hLlen := lots_len h7
      generalize upd H3 tp (.tup [.ref tb, .ref lt]) = H4 at *
      have lt_at : ∀ {H'}, ER u H4 H' → H' lt = some (.lst (vtx (srt (lotsL (l.drop 1))))) := fun e => e lt _ hlt4 ltu (fun ps z => by cases z)
      have tb_at : ∀ {H'}, ER u H4 H' → Tb C H' tb l := fun e => hTb4.er e tbu
      have shL : Shw (.tuple (dtx (srt (lotsL (l.drop 1))))) := shw_txs (by omega) fun z hz => ⟨fun c hc => lot_ok hlot c (parting_sub (hLL z hz).1 c hc), (hLL z hz).2⟩
      have resT : ∀ {p : Addr} {H' : Hp}, H' p = some (.tup (vtx (srt (lotsL (l.drop 1))))) → p ≠ u → Res K u H' (.ref p) (.tuple (dtx (srt (lotsL (l.drop 1))))) := fun {p H'} hp hn H'' e'' => .tup (SqT.of (e'' p _ hp hn (fun ps z => by cases z) (fun xs z => by cases z))) (dpAll_tx _)
      refine seq3 (check3 (d := .tuple (dtx (srt (lotsL (l.drop 1))))) (by show 6 < 13; decide) hR4 shL ?_ ?_ ?_ ?_)
      · intro H5 Q5 hR5 e5 cont
        exact ⟨_, rfl, tb, l, rfl, tb_at e5, h7, fun p H6 e6 np hp => cont _ H6 (hR5.sm e6) (.sm e6) (resT hp (hR5.urn.ne np))⟩
      · intro bk H5 Q5 hR5 e5 cont
        exact ⟨_, rfl, rfl, rfl, tb, l, rfl, tb_at e5, h7, fun p H6 e6 np hp => cont _ H6 (hR5.sm e6) (.sm e6) (resT hp (hR5.urn.ne np))⟩
      · intro bk H5 Q5 hR5 e5 cont
        exact ⟨_, rfl, lt, _, rfl, .inl ⟨SqL.of (lt_at e5), fun q nq => cont _ _ (hR5.sm (.new nq)) (.sm (.new nq)) (resT upd_same (hR5.urn.ne nq))⟩⟩
      · intro bk H5 hR5 e5
        have hmemv : ∀ {v : V}, v ∈ vtx (srt (lotsL (l.drop 1))) → ∃ z, z ∈ srt (lotsL (l.drop 1)) ∧ v = V.str (tx z) := fun hv => by
          obtain ⟨z, hz, e⟩ := List.mem_map.mp hv
          exact ⟨z, hz, e.symm⟩
        refine ⟨_, rfl, lt, rfl, ⟨_, SqL.of (lt_at e5)⟩, ?_⟩
        refine for_it (walk_list (xs := vtx (srt (lotsL (l.drop 1))))) (fun i σ H' => Rt u [(Tp, lamQ)] H' ∧ ER u H4 H' ∧ ∃ y6 y7 y8 y9 y10 y11 y12, σ = [some (.ref u), some x, some (.str (tx l)), some (.ref g), some (.ref tb), some (.ref lt), y6, y7, y8, y9, y10, y11, y12]) ⟨hR5, e5, _, _, _, _, _, _, _, rfl⟩ (fun _ _ _ _ q => SqL.of (lt_at q.2.1)) ?_ ?_
        · rintro i2 x2 σ2 H6 H6' hi2 ⟨hR6, e6, y6, y7, y8, y9, y10, y11, y12, rfl⟩ ⟨rfl, hx2⟩
          obtain ⟨lot, hlo, rfl⟩ := vtx_get (ls := srt (lotsL (l.drop 1))) hx2
          obtain ⟨lp, l7⟩ := hLL lot (List.mem_of_getElem? hlo)
          refine ⟨_, rfl, l, rfl, h7, fun tw H8 e8 ntw htw => ⟨tw, rfl, ⟨_, SqL.of htw⟩, ?_⟩⟩
          have twu := hR6.urn.ne ntw
          have tw_at : ∀ {H'}, ER u H8 H' → H' tw = some (.lst (vtx (combIx 2 l))) := fun e => e tw _ htw twu (fun ps z => by cases z)
          have e48 : ER u H4 H8 := e6.trans (.sm e8)
          refine for_it (walk_list (xs := vtx (combIx 2 l))) (fun i σ H' => Rt u [(Tp, lamQ)] H' ∧ ER u H8 H' ∧ ∃ y6 y8 y9 y10 y11 y12, σ = [some (.ref u), some x, some (.str (tx l)), some (.ref g), some (.ref tb), some (.ref lt), y6, some (.str (tx lot)), y8, y9, y10, y11, y12]) ⟨hR6.sm e8, .refl _ _, _, _, _, _, _, _, rfl⟩ (fun _ _ _ _ q => SqL.of (tw_at q.2.1)) ?_ ?_
          · rintro i3 x3 σ3 H9 H9' hi3 ⟨hR9, e9, z6, z8, z9, z10, z11, z12, rfl⟩ ⟨rfl, hx3⟩
            obtain ⟨two, htwo, rfl⟩ := vtx_get (ls := combIx 2 l) hx3
            have hpair := pair_comb hnd (List.mem_of_getElem? htwo)
            obtain ⟨a, b, rfl, _, _⟩ := mem_two (List.mem_of_getElem? htwo)
            have e49 := e48.trans e9
            refine check3 (d := .bool (isPartedM lot a b)) (by show 6 < 13; decide) hR9 (shw_bl _) ?_ ?_ ?_ ?_
            · intro H5 Q5 hR5 e5 cont
              exact ⟨_, rfl, _, rfl, _, rfl, tb, l, lot, a, b, rfl, tb_at (e49.trans e5), h7, l7, lp, hpair, fun H' e' => cont _ H' (hR5.sm e') (.sm e') (Res.bl _)⟩
            · intro bk H5 Q5 hR5 e5 cont
              exact ⟨_, rfl, _, rfl, _, rfl, rfl, rfl, tb, l, lot, a, b, rfl, tb_at (e49.trans e5), h7, l7, lp, hpair, fun H' e' => cont _ H' (hR5.sm e') (.sm e') (Res.bl _)⟩
            · intro bk H5 Q5 hR5 e5 cont
              exact ⟨_, rfl, _, rfl, .inl ⟨lot, a, b, rfl, cont _ H5 hR5 (.refl _ _) (Res.bl _)⟩⟩
            · intro bk H5 hR5 e5
              exact ⟨hR5, e9.trans e5, _, _, _, _, _, _, rfl⟩
          · rintro σ3 H9 ⟨hR9, e9, z6, z8, z9, z10, z11, z12, rfl⟩
            have e49 := e48.trans e9
            refine ⟨_, rfl, lt, rfl, ⟨_, SqL.of (lt_at e49)⟩, ?_⟩
            refine for_it (walk_list (xs := vtx (srt (lotsL (l.drop 1))))) (fun i σ H' => Rt u [(Tp, lamQ)] H' ∧ ER u H4 H' ∧ ∃ y6 y8 y9 y10 y11 y12, σ = [some (.ref u), some x, some (.str (tx l)), some (.ref g), some (.ref tb), some (.ref lt), y6, some (.str (tx lot)), y8, y9, y10, y11, y12]) ⟨hR9, e49, _, _, _, _, _, _, rfl⟩ (fun _ _ _ _ q => SqL.of (lt_at q.2.1)) ?_ ?_
            · rintro i3 x3 σ3 H10 H10' hi3 ⟨hR10, e10, w6, w8, w9, w10, w11, w12, rfl⟩ ⟨rfl, hx3⟩
              obtain ⟨mate, hma, rfl⟩ := vtx_get (ls := srt (lotsL (l.drop 1))) hx3
              obtain ⟨mp, m7⟩ := hLL mate (List.mem_of_getElem? hma)
              refine check3 (d := .bool (crossM l lot mate)) (by show 6 < 13; decide) hR10 (shw_bl _) ?_ ?_ ?_ ?_
              · intro H5 Q5 hR5 e5 cont
                exact ⟨_, rfl, _, rfl, _, rfl, tb, l, lot, mate, rfl, tb_at (e10.trans e5), h7, l7, m7, lp, mp, fun H' e' => cont _ H' (hR5.sm e') (.sm e') (Res.bl _)⟩
              · intro bk H5 Q5 hR5 e5 cont
                exact ⟨_, rfl, _, rfl, _, rfl, rfl, rfl, tb, l, lot, mate, rfl, tb_at (e10.trans e5), h7, l7, m7, lp, mp, fun H' e' => cont _ H' (hR5.sm e') (.sm e') (Res.bl _)⟩
              · intro bk H5 Q5 hR5 e5 cont
                exact ⟨_, rfl, _, rfl, _, rfl, l, lot, mate, rfl, h7, lp, mp, fun H' e' => cont _ H' (hR5.sm e') (.sm e') (Res.bl _)⟩
              · intro bk H5 hR5 e5
                exact ⟨hR5, e10.trans e5, _, _, _, _, _, _, rfl⟩
            · rintro σ3 H10 ⟨hR10, e10, w6, w8, w9, w10, w11, w12, rfl⟩
              exact ⟨hR10, e10, _, _, _, _, _, _, _, rfl⟩
        · rintro σ2 H6 ⟨hR6, e6, y6, y7, y8, y9, y10, y11, y12, rfl⟩
          refine ⟨6, rfl, by decide, by decide, ?_⟩
          refine for_it (walk_range (lo := 0) (n := (6 : Int).toNat)) (fun i σ H' => Rt u [(Tp, lamQ)] H' ∧ ER u H4 H' ∧ ∃ y6 y7 y8 y9 y10 y11 y12, σ = [some (.ref u), some x, some (.str (tx l)), some (.ref g), some (.ref tb), some (.ref lt), y6, y7, y8, y9, y10, y11, y12]) ⟨hR6, e6, _, _, _, _, _, _, _, rfl⟩ (fun _ _ _ _ _ => trivial) ?_ ?_
          · rintro i2 x2 σ2 H7 H7' hi2 ⟨hR7, e7, z6, z7, z8, z9, z10, z11, z12, rfl⟩ ⟨rfl, hx2⟩
            have hpos : 0 < (vtx (srt (lotsL (l.drop 1)))).length := by rw [vtx, List.length_map]; exact lots_some hl2
            have hmax : (vtx (srt (lotsL (l.drop 1)))).length ≤ 1000000 := by rw [vtx, List.length_map]; omega
            refine ⟨_, rfl, _, rfl, u, lt, _, rfl, hR7.urn, hpos, hmax, lt_at e7, ltu, fun v1 H8 e8 hv1 => ?_⟩
            have f8 : ER u H4 H8 := e7.trans (.of e8)
            have hR8 := hR7.step e8
            refine ⟨_, rfl, _, rfl, u, lt, _, rfl, hR8.urn, hpos, hmax, lt_at f8, ltu, fun v2 H9 e9 hv2 => ?_⟩
            have f9 : ER u H4 H9 := f8.trans (.of e9)
            have hR9 := hR8.step e9
            refine ⟨_, rfl, _, rfl, u, lt, _, rfl, hR9.urn, hpos, hmax, lt_at f9, ltu, fun v3 H10 e10 hv3 => ?_⟩
            have f10 : ER u H4 H10 := f9.trans (.of e10)
            have hR10 := hR9.step e10
            obtain ⟨p, hp, rfl⟩ := hmemv hv1
            obtain ⟨q, hq, rfl⟩ := hmemv hv2
            obtain ⟨r, hr3, rfl⟩ := hmemv hv3
            obtain ⟨pp, p7⟩ := hLL p hp
            obtain ⟨qp, q7⟩ := hLL q hq
            obtain ⟨rp, r7⟩ := hLL r hr3
            refine ⟨sz5 (by show 3 ≤ 1000000; decide), fun t3 nt3 => ⟨t3, _, rfl, SqT.of upd_same, rfl, _, _, rfl, _, _, rfl, _, _, rfl, rfl, ?_⟩⟩
            have e11 : Sm H10 (upd H10 t3 (.tup [.str (tx p), .str (tx q), .str (tx r)])) := .new nt3
            have f11 : ER u H4 (upd H10 t3 (.tup [.str (tx p), .str (tx q), .str (tx r)])) := f10.trans (.sm e11)
            have hR11 := hR10.sm e11
            refine check3 (d := .bool (clashM l [p, q, r])) (by show 6 < 13; decide) hR11 (shw_bl _) ?_ ?_ ?_ ?_
            · intro H5 Q5 hR5 e5 cont
              exact ⟨_, rfl, _, rfl, _, rfl, _, rfl, tb, l, p, q, r, rfl, tb_at (f11.trans e5), lot_ok hlot, h7, p7, q7, r7, pp, qp, rp, fun H' e' => cont _ H' (hR5.sm e') (.sm e') (Res.bl _)⟩
            · intro bk H5 Q5 hR5 e5 cont
              exact ⟨_, rfl, _, rfl, _, rfl, _, rfl, rfl, rfl, tb, l, p, q, r, rfl, tb_at (f11.trans e5), lot_ok hlot, h7, p7, q7, r7, pp, qp, rp, fun H' e' => cont _ H' (hR5.sm e') (.sm e') (Res.bl _)⟩
            · intro bk H5 Q5 hR5 e5 cont
              refine ⟨_, rfl, _, rfl, _, rfl, _, rfl, sz5 (by show 3 ≤ 1000000; decide), fun b nb => ⟨l, p, q, r, b, rfl, upd_same, h7, hlot, fun H' e' => ?_⟩⟩
              have eb : Sm H5 H' := Ext.trans (.new nb) e'
              exact cont _ H' (hR5.sm eb) (.sm eb) (Res.bl _)
            · intro bk H5 hR5 e5
              exact ⟨hR5, f11.trans e5, _, _, _, _, _, _, _, rfl⟩
          · rintro σ2 H7 ⟨hR7, e7, z6, z7, z8, z9, z10, z11, z12, rfl⟩
            exact ⟨hR7, e04.trans e7, _, _, _, _, _, _, _, _, _, _, _, _, rfl⟩
    · rintro σ H2 ⟨hR2, e2, y1, y2, y3, y4, y5, y6, y7, y8, y9, y10, y11, y12, rfl⟩
      exact k H2 hR2 e2
end
end K20
set_option Elab.async false
set_option linter.all false
set_option maxRecDepth 100000
set_option maxHeartbeats 4000000
namespace K20
open PySem PySem.Spec PyProof.Rows L2 Nf
section
theorem Fun.okG {P : Program} {w : World} {K : PySem.W.Frag} {mg : Str → Option Value} {base : Heap} {x : Str} {st : Stmt} {f : Addr} {fd : FuncData} {N ps : List Str} {k : Nat} {sp : Sp} (F : Fun K x x st f fd) (S : FnScope N ps (defScope st)) (len : ∀ vs H Q E, sp vs H Q E → vs.length = ps.length)
    (hbody : ∀ (cdv : Value) (A : Around) (outer : List Env) (s : Shared) (H : Hp) (vs : List V) (Q : VK) (E : XK), Room k (A.deeper (envOfC x (defScope st) s.heap.objs.size f cdv)) → (A.deeper (envOfC x (defScope st) s.heap.objs.size f cdv)).guards = some [] → sp vs H Q E →
      ∃ t, PSs (cxOf CX0 P w K mg base N x (defScope st) f cdv A outer s H E).nox (defBody st) t ∧ t { nx := fun _ H' => Q .non H', rt := Q } (L2.start N vs) H) : FnOkG P w K mg base (k + 1) f fd ps sp := by
  obtain ⟨oc, od, kV, doc, pm, an, cdv, ct, osl, rfl, lk, hcd⟩ := F.ex
  refine ⟨len, fun A outer s H args us vs Q E hr hg e0 hb r h => ?_⟩
  exact LamX.run_ofS lk hcd S hr e0 hb r (len _ _ _ _ h) fun hr' => by
    obtain ⟨t, ht, hq⟩ := hbody cdv A outer s H vs Q E hr' hg h
    exact ⟨t, ht.nox, hq⟩
theorem tabs_upd {T : List (Addr × Str)} {H : Hp} {D : Addr} {xs : List V} {o : HO} (t : LamX.Tabs T H) (h : H D = some (.lst xs)) : LamX.Tabs T (upd H D o) := fun p hp => by
  obtain ⟨ps, h1, h2, h3⟩ := t p hp
  have n1 : p.1 ≠ D := fun z => by rw [z, h] at h1; cases h1
  refine ⟨ps, by rw [upd_ne n1]; exact h1, h2, fun pos cv hc => ?_⟩
  obtain ⟨c, e1, e2⟩ := h3 pos cv hc
  have n2 : c ≠ D := fun z => by
    rw [z, h] at e2
    unfold LamX.CodeO at e2
    cases e2
  exact ⟨c, e1, by rw [upd_ne n2]; exact e2⟩
theorem tabs_new {T : List (Addr × Str)} {H : Hp} {D : Addr} {o : HO} (t : LamX.Tabs T H) (h : H D = none) : LamX.Tabs T (upd H D o) := t.ext fun b u hb => by rw [upd_ne (ne_of_none hb h)]; exact hb
def KeepN (H H' : Hp) : Prop := ∀ b o, H b = some o → (∀ ps, o ≠ .tbl ps) → H' b = some o
theorem KeepN.seq {K : PySem.W.Frag} {H H' : Hp} {a : Addr} {xs : List V} (e : KeepN H H') (h : SqL K H a xs) : SqL K H' a xs := by
  rcases h with (h | ⟨o, h⟩) | h
  · exact .inl (.inl (e a _ h (fun ps z => by cases z)))
  · exact .inl (.inr ⟨o, e a _ h (fun ps z => by cases z)⟩)
  · exact .inr h
variable {P : Program} {w : World} {K : PySem.W.Frag} {mg : Str → Option Value} {base : Heap} {C : Addr} {f : Addr} {fd : FuncData}
def sp_law (K : PySem.W.Frag) (Tp : Addr) : Sp := fun vs H Q _ => ∃ (a : Addr) (ns : List Int), vs = [.ref a] ∧ SqL K H a (ns.map V.int) ∧ ns.length ≤ 1000 ∧ LamX.Tabs [(Tp, lamQ)] H ∧ ∀ H', Q (.bl true) H'
theorem ok_law {Tp : Addr} (F : Fun K "law" "law" s_law f fd) (T : Txt K mg C) (C__law_urn : Can P w K mg base 1 "_law_urn" s_law_urn ["_law_cells", "_law_turn"] (sp_urn K))
    (C__law_right : CanG P w K mg base 8 "_law_right" ["_law_urn_here"] (sp_right Tp)) : FnOkG P w K mg base 9 f fd ["_law_script"] (sp_law K Tp) := by
  refine Fun.okG F sc_law (fun vs H Q E h => ?_) (fun cdv A outer s H vs Q E hr hG h => ?_)
  · obtain ⟨_, _, rfl, _⟩ := h; rfl
  · obtain ⟨a, ns, rfl, ha, hn, hT, k⟩ := h
    refine ⟨_, (pss_one (ps_ret (pe_callB (cr_allK K rfl) (by rfl) T.all (by decide +kernel) (pa_cons (pe_lc (own := [("_law_turn", 1)]) rfl sc_law.nd (pi_range1 (by rfl) T.range (pa_cons (pe_callB (call_max2 rfl) (by rfl) T.max (by decide +kernel) (pa_cons pe_int (pa_cons (pe_callB (call_min2 rfl) (by rfl) T.min (by decide +kernel) (pa_cons (pe_callB (call_len_seqK K) (by rfl) T.len PySem.boot_len (pa_cons (pv 0) pa_nil)) (pa_cons pe_int pa_nil))) pa_nil))) pa_nil))
      (blkOk_by (own := [("_law_turn", 1)]) (N := N_law) (sc := defScope s_law) (by decide +kernel)) (fun _ _ _ _ _ => (pg_name (i := 1) sc_law.nd rfl (Or.inl rfl) (Or.inr rfl))) (fun _ _ _ _ _ => pts_nil) (fun _ _ _ _ _ => (pe_canG C__law_right (hr.mono (by decide)) hG (pa_cons (pe_can C__law_urn (hr.mono (by decide)) (pa_cons (pv 0) (pa_cons (pv 1) pa_nil))) pa_nil)))) pa_nil)))), ?_⟩
    refine ⟨_, rfl, a, _, rfl, .inl ha, _, _, rfl, _, _, rfl, ?_⟩
    have el : (ns.map V.int).length = ns.length := List.length_map _
    have hm : ∀ z : Int, (if z < 5 then z else 5) ≤ 5 := fun z => by split <;> omega
    obtain ⟨m, hm5, em⟩ : ∃ m : Nat, m ≤ 5 ∧ (if (if (5 : Int) < ((ns.map V.int).length : Int) then (5 : Int) else ((ns.map V.int).length : Int)) > 2 then (if (5 : Int) < ((ns.map V.int).length : Int) then (5 : Int) else ((ns.map V.int).length : Int)) else (2 : Int)) = (m : Int) := by
      rw [el]
      refine ⟨(if (if (5 : Int) < (ns.length : Int) then (5 : Int) else (ns.length : Int)) > 2 then (if (5 : Int) < (ns.length : Int) then (5 : Int) else (ns.length : Int)) else (2 : Int)).toNat, ?_, ?_⟩ <;> (repeat' split) <;> omega
    rw [em]
    refine ⟨_, rfl, by omega, by omega, fun D hD => ?_⟩
    refine lc_it (walk_range (lo := 0) (n := ((m : Int)).toNat)) (fun i H' => LamX.Tabs [(Tp, lamQ)] H' ∧ KeepN H H' ∧ H' D = some (.lst ((List.replicate i true).map V.bl)) ∧ i ≤ 5) ⟨tabs_new hT hD, fun b o hb _ => by rw [upd_ne (ne_of_none hb hD)]; exact hb, upd_same, Nat.zero_le _⟩ (fun _ _ _ _ => trivial) ?_ ?_
    · rintro i x H1 H1' hi ⟨hT1, hk1, hD1, hi5⟩ ⟨rfl, hx⟩
      have hx : x = V.int ((i : Nat) : Int) := by rw [hx]; exact congrArg V.int (by omega)
      subst hx
      have hi : i < (m : Int).toNat := hi
      refine ⟨rfl, yesT ⟨_, rfl, _, rfl, a, ns, i, rfl, hk1.seq ha, by omega, fun p H2 e2 np hU => ?_⟩⟩
      refine ⟨p, rfl, ⟨hU, hT1.ext e2⟩, fun H3 hR3 e3 => ?_⟩
      have hDp : D ≠ p := fun z => by rw [← z, hD1] at np; cases np
      have hD3 := e3 D _ (Sm.at e2 hD1) hDp (fun ps z => by cases z)
      refine ⟨_, hD3, by rw [List.length_map, List.length_replicate, sizeLine_eq]; omega, tabs_upd hR3.tab hD3, fun b o hb hn => ?_, ?_, by omega⟩
      · have h1 := hk1 b o hb hn
        have hbp : b ≠ p := fun z => by rw [← z, h1] at np; cases np
        rw [upd_ne (ne_of_none hb hD)]
        exact e3 b o (Sm.at e2 h1) hbp hn
      · rw [upd_same, List.replicate_succ', List.map_append]; rfl
    · rintro H1 ⟨hT1, hk1, hD1, hi5⟩
      refine ⟨D, _, rfl, SqL.of hD1, ?_⟩
      have : (List.replicate (m : Int).toNat true).all id = true := by rw [List.all_eq_true]; intro y hy; rw [List.eq_of_mem_replicate hy]; rfl
      rw [this]
      exact k H1
end
end K20
set_option Elab.async false
set_option linter.all false
set_option maxRecDepth 100000
set_option maxHeartbeats 4000000
namespace K20
open PySem PySem.Spec PyProof.Rows L2 Nf
section
/-! ### the law is called by the claim: one table, nothing being shown -/
variable {P : Program} {w : World} {K : PySem.W.Frag} {mg mb : Str → Option Value} {k : Nat} {fa a c Tp : Addr} {fd : FuncData} {x : Str} {sp : Sp} {s₁ : Shared} {vs : List Value} {ns : List Int}
/-- what the claim's heap tracks: the table, and the script unless it is of the written part -/
def H₁ (K : PySem.W.Frag) (a Tp : Addr) (vs : List Value) (ns : List Int) : Hp := fun b =>
  if b = Tp then some (.tbl #[]) else if (b = a ∧ (K.lookup a).isNone = true) then some (.frz { cls := .type "list", data := .seq vs.toArray } (.lst (ns.map V.int))) else none
theorem H₁_tab : H₁ K a Tp vs ns Tp = some (.tbl #[]) := if_pos rfl
theorem H₁_off {b : Addr} (h1 : b ≠ Tp) (h2 : b ≠ a) : H₁ K a Tp vs ns b = none := by
  unfold H₁
  rw [if_neg h1, if_neg fun z => h2 z.1]
theorem law_callG (KX : K.In s₁.heap) (hns : s₁.heap.Ns mainGlobals mg) (hb : s₁.heap.Ns builtinsNs mb) (hbb : ∀ y : Str, y ≠ "__name__" → mb y = bootBuiltins y) (hlim : s₁.heap.NoLimit) (hgen : s₁.gens = #[])
    (hT : s₁.heap.get? Tp = some { cls := .none, data := .fields #[] }) (nT : K.lookup Tp = none) (HC : PySem.W.CodeHd s₁.heap c Tp)
    (hbm : ∃ (bm : Addr) (ob : Obj), mg "__builtins__" = some (.ref bm) ∧ bm ≠ builtinsNs ∧ s₁.heap.get? bm = some ob ∧ ob.cls = .type "module" ∧ ob.dict = some builtinsNs ∧ ob.data = .plain)
    (ha : s₁.heap.get? a = some { cls := .type "list", data := .seq vs.toArray }) (hi : IntsAre vs ns) (hl : ns.length ≤ sizeLine) (hr : Room k callerA)
    (F : ∀ bh : Heap, K.In bh → bh.Ns mainGlobals mg → LamX.TabB bh mg c Tp → FnOkG P w K mg bh k fa fd [x] sp) (hbind : ∀ (s : Shared) (u : Value), BindsTo s fd ⟨[u], []⟩ [(x, u)])
    (hsp : ∀ H : Hp, H Tp = some (.tbl #[]) → SqL K H a (ns.map V.int) → sp [.ref a] H (fun v _ => v = .bl true) E0) :
    codeAny (model P w) callerA (.call (.ref fa) ⟨[.ref a], []⟩) (fun r s' => r = .ok (.ret (.bool true)) ∧ OldK s₁.heap s'.heap ∧ s'.os = s₁.os ∧ AllBare s'.gens) s₁ := by
  have rv := vals_ints hi
  have zl : ns.length = vs.length := hi.length.symm
  have aT : a ≠ Tp := fun z => by
    rw [z, hT] at ha
    cases congrArg Obj.data (Option.some.inj ha)
  -- places of other kinds of data are not tracked
  have off : ∀ {b : Addr} {o : Obj}, s₁.heap.get? b = some o → o.data ≠ .fields #[] → (∀ q m, o.data ≠ .seq q m) → H₁ K a Tp vs ns b = none := fun {b o} hg h1 h2 => by
    refine H₁_off (fun z => ?_) (fun z => ?_)
    · rw [z, hT] at hg; cases hg; exact h1 rfl
    · rw [z, ha] at hg; cases hg; exact h2 _ _ rfl
  have keepsNs : ∀ {b : Addr} {m : Str → Option Value}, s₁.heap.Ns b m → (hidT s₁.heap (H₁ K a Tp vs ns)).Ns b m := fun {b m} n => by
    obtain ⟨o, es, ep, hg, hd, rest⟩ := n
    exact ⟨o, es, ep, hidT_get hg (off hg (fun z => by rw [hd] at z; cases z) (fun q m z => by rw [hd] at z; cases z)), hd, rest⟩
  have inK : K.In (hidT s₁.heap (H₁ K a Tp vs ns)) := fun b o hk => by
    refine hidT_get (KX b o hk) ?_
    have h1 : b ≠ Tp := fun z => by rw [z, nT] at hk; cases hk
    unfold H₁
    rw [if_neg h1, if_neg]
    rintro ⟨z, q⟩
    rw [← z, hk] at q
    cases q
  have modH : L2.Mod K mg (hidT s₁.heap (H₁ K a Tp vs ns)) := ⟨inK, keepsNs hns, ⟨mb, keepsNs hb, hbb⟩, by obtain ⟨mc, n1, n2⟩ := hlim; exact ⟨mc, keepsNs n1, n2⟩⟩
  have notG : ∀ {b : Addr} {o : Obj}, s₁.heap.get? b = some o → (∀ es ep, o.data ≠ .dict es ep) → b ≠ mainGlobals := fun {b o} hg h z => by
    obtain ⟨o2, es, ep, g2, d2, _⟩ := hns
    rw [z, g2] at hg
    cases hg
    exact h _ _ d2
  have tabH : LamX.TabB (hidT s₁.heap (H₁ K a Tp vs ns)) mg c Tp := by
    refine ⟨?_, ?_, fun z => notG hT (fun es ep q => by cases q) z.symm⟩
    · obtain ⟨o, us, file, tf, flags, tg, inF, text, tt, g1, c1, d1, more⟩ := HC
      refine ⟨o, us, file, tf, flags, tg, inF, text, tt, hidT_get g1 (off g1 (fun z => ?_) (fun q m z => by rw [d1] at z; cases z)), c1, d1, more⟩
      rw [d1] at z
      cases z
      exact absurd more.1 (by simp)
    · obtain ⟨bm, ob, m1, m2, m3, m4, m5, m6⟩ := hbm
      have dP : ∀ es ep, ob.data ≠ .dict es ep := fun es ep z => by rw [m6] at z; cases z
      have nP : bm ≠ Tp := fun z => by rw [z, hT] at m3; cases m3; cases m6
      exact ⟨bm, ob, m1, m2, notG m3 dP, nP, hidT_get m3 (off m3 (fun z => by rw [m6] at z; cases z) (fun q m z => by rw [m6] at z; cases z)), m4, m5, m6⟩
  have hokH : HOk P w (H₁ K a Tp vs ns) s₁.heap := fun b u hu => by
    unfold H₁ at hu
    by_cases h1 : b = Tp
    · rw [if_pos h1] at hu
      cases hu
      rw [h1]
      exact hT
    · rw [if_neg h1] at hu
      by_cases h2 : b = a ∧ (K.lookup a).isNone = true
      · rw [if_pos h2] at hu
        cases hu
        rw [h2.1]
        exact ⟨ha, by rw [List.length_map]; exact hl, vs, _, rv, ha⟩
      · rw [if_neg h2] at hu
        cases hu
  have seqH : SqL K (H₁ K a Tp vs ns) a (ns.map V.int) := by
    cases hk : K.lookup a with
    | none => exact .inl (.inr ⟨_, by unfold H₁; rw [if_neg aT, if_pos ⟨rfl, by rw [hk]; rfl⟩]⟩)
    | some o =>
      have g := KX a o hk
      rw [ha] at g
      cases g
      exact .inr ⟨_, vs.toArray, _, hk, rfl, rfl, rfl, by rw [List.size_toArray, ← zl]; exact hl, by simpa using rv⟩
  have env : Env0 P w K mg (hidT s₁.heap (H₁ K a Tp vs ns)) callerA [] s₁ (H₁ K a Tp vs ns) :=
    ⟨rfl, modH, fun b o g => of_hidT g, Nat.le_of_eq (hidT_size _ _), trivial, (fun b z => nomatch z), hokH, .of_eq hgen⟩
  have go := (F _ inK (keepsNs hns) tabH).run callerA [] s₁ _ ⟨[.ref a], []⟩ [.ref a] [.ref a] _ _ hr rfl env (hbind s₁ (.ref a)) (.cons rfl .nil) (hsp _ H₁_tab seqH)
  refine codeAny_mono go fun r s' res => ?_
  match r, res with
  | .error _, res => exact (show False from res).elim
  | .ok .next, res => exact (show False from res).elim
  | .ok .brk, res => exact (show False from res).elim
  | .ok .cont, res => exact (show False from res).elim
  | .ok (.ret u), res =>
    obtain ⟨v, H', osE, bareE, un, hok', rel, qv⟩ := res
    have qv : v = V.bl true := qv
    subst qv
    obtain rfl : u = Value.bool true := rel
    obtain ⟨grew, hgr⟩ := un.tbls Tp #[] H₁_tab
    have tabE : s'.heap.get? Tp = some { cls := .none, data := .fields (#[] ++ grew) } := hok' Tp _ hgr
    have same : ∀ b o, b ≠ Tp → s₁.heap.get? b = some o → s'.heap.get? b = some o := fun b o nb hg => by
      by_cases h2 : b = a ∧ (K.lookup a).isNone = true
      · have hfz : H₁ K a Tp vs ns b = some (.frz { cls := .type "list", data := .seq vs.toArray } (.lst (ns.map V.int))) := by unfold H₁; rw [if_neg nb, if_pos h2]
        have z1 := (hok' b _ (un.frzs b _ _ hfz)).1
        have z0 := (hokH b _ hfz).1
        rw [hg] at z0
        cases z0
        exact z1
      · have hno : H₁ K a Tp vs ns b = none := by unfold H₁; rw [if_neg nb, if_neg h2]
        exact un.keep b o hg hno (fun z => nomatch z) (fun z => nomatch z)
    refine ⟨rfl, ⟨fun b o hg => ?_, fun b o hg => ?_⟩, osE, bareE⟩
    · by_cases hbT : b = Tp
      · rw [hbT] at hg ⊢
        rw [hT] at hg
        cases hg
        exact .inr (.inl ⟨(HC.tab hT).isCodeTable, rfl, #[], grew, rfl, tabE⟩)
      · exact .inl (same b o hbT hg)
    · by_cases hbT : b = Tp
      · rw [hbT]; exact ⟨_, tabE⟩
      · exact ⟨o, same b o hbT hg⟩
end
end K20
set_option Elab.async false
set_option linter.all false
set_option maxRecDepth 100000
set_option maxHeartbeats 4000000
namespace K20
open PySem PySem.Spec PyProof.Rows L2 Nf
section
/-- a def of the top, found by its name -/
def DefAt (K : PySem.W.Frag) (mg : Str → Option Value) (x : Str) (st : Stmt) : Prop := ∃ f fd, mg x = some (.ref f) ∧ Fun K x x st f fd
theorem def_mk {K : PySem.W.Frag} {h : Heap} {mg : Str → Option Value} {x : Str} {st : Stmt} {f : Addr} {oc : Value} {od an : Option Addr} {osl : Array (Option Value)} {kV doc pm cdv ct : Value} (X : K.In h) (G : h.Ns mainGlobals mg) (a : PySem.W.nsIn K mainGlobals x = some (some (.ref f)))
    (l : K.lookup f = some ⟨oc, od, .func (PySem.W.fnOf x x (defArgs st) (defBody st) (defScope st) .none kV doc pm an cdv ct), osl⟩) (c : PySem.W.codeIn K cdv x = true) (k : PySem.W.keepIn K (.ref f) = true) : DefAt K mg x st := ⟨f, _, PySem.W.mg_of X G a, fun_mk (st := st) l c k⟩
def DefC (K : PySem.W.Frag) (mg : Str → Option Value) (x : Str) (st : Stmt) (c : Addr) : Prop := ∃ f fd, mg x = some (.ref f) ∧ FunC K x st f fd c
theorem defC_mk {K : PySem.W.Frag} {h : Heap} {mg : Str → Option Value} {x : Str} {st : Stmt} {f cc : Addr} {oc : Value} {od an : Option Addr} {osl : Array (Option Value)} {kV doc pm ct : Value} (X : K.In h) (G : h.Ns mainGlobals mg) (a : PySem.W.nsIn K mainGlobals x = some (some (.ref f)))
    (l : K.lookup f = some ⟨oc, od, .func (PySem.W.fnOf x x (defArgs st) (defBody st) (defScope st) .none kV doc pm an (.ref cc) ct), osl⟩) (c : PySem.W.codeIn K (.ref cc) x = true) (k : PySem.W.keepIn K (.ref f) = true) : DefC K mg x st cc := ⟨f, _, PySem.W.mg_of X G a, ⟨_, _, _, _, _, _, _, _, rfl, l, c⟩, k⟩
/-- the init of the class -/
def InitAt (K : PySem.W.Frag) (C : Addr) : Prop := ∃ f fd, Mk K C f ∧ Fun K "__init__" "Table.__init__" s_Table_init f fd
theorem init_mk {K : PySem.W.Frag} {C f : Addr} {oc : Value} {od an : Option Addr} {osl : Array (Option Value)} {kV doc pm cdv ct : Value} (mk : PySem.W.makesIn K C = true) (a : PySem.W.findIn K (.ref C) "__init__" = some (some (.ref f))) (i : PySem.W.isFn K (.ref f) = true) (kc : PySem.W.keepIn K (.ref C) = true)
    (l : K.lookup f = some ⟨oc, od, .func (PySem.W.fnOf "__init__" "Table.__init__" (defArgs s_Table_init) (defBody s_Table_init) (defScope s_Table_init) .none kV doc pm an cdv ct), osl⟩) (c : PySem.W.codeIn K cdv "Table.__init__" = true) (k : PySem.W.keepIn K (.ref f) = true) : InitAt K C := ⟨f, _, ⟨mk, a, i, kc⟩, fun_mk (st := s_Table_init) l c k⟩
/-- the property things -/
def ThingsAt (K : PySem.W.Frag) (C : Addr) : Prop := ∃ p g fd, PropOf K C "things" p g ∧ Fun K "things" "Table.things" s_things g fd
theorem things_mk {K : PySem.W.Frag} {C p g : Addr} {rest : List Value} {oc : Value} {od an : Option Addr} {osl : Array (Option Value)} {kV doc pm cdv ct : Value} (a : PySem.W.findIn K (.ref C) "things" = some (some (.ref p))) (b : PySem.W.specialIn K (.ref p) "__get__" = some (some (.builtin "property.__get__"))) (t : PySem.W.takesIn K (.ref p) = some true) (r : PySem.W.recIn K p "property" = some (.ref g :: rest))
    (l : K.lookup g = some ⟨oc, od, .func (PySem.W.fnOf "things" "Table.things" (defArgs s_things) (defBody s_things) (defScope s_things) .none kV doc pm an cdv ct), osl⟩) (c : PySem.W.codeIn K cdv "Table.things" = true) (k : PySem.W.keepIn K (.ref g) = true) : ThingsAt K C := ⟨p, g, _, ⟨a, b, t, ⟨rest, r⟩⟩, fun_mk (st := s_things) l c k⟩
variable {P : Program} {w : World} {K : PySem.W.Frag} {mg : Str → Option Value} {base : Heap} {C : Addr}
theorem can_of {x : Str} {st : Stmt} {ps : List Str} {k : Nat} {sp : Sp} (D : DefAt K mg x st) (hb : ∀ (kV doc pm : Value) (an : Option Addr) (cdv ct : Value) (us : List Value), us.length = ps.length → bindArgs (PySem.W.fnOf x x (defArgs st) (defBody st) (defScope st) .none kV doc pm an cdv ct) ⟨us, []⟩ = pure (ps.zip us))
    (ok : ∀ f fd, Fun K x x st f fd → FnOk P w K mg base CX0 k f fd ps sp) : Can P w K mg base k x st ps sp := by
  obtain ⟨f, fd, hm, F⟩ := D
  exact ⟨f, fd, hm, F, F.binds hb, ok f fd F⟩
structure AllD (K : PySem.W.Frag) (mg : Str → Option Value) (C c : Addr) : Prop where
  T : Txt K mg C
  TC : TxtC K C
  TI : TxtI K C
  init : InitAt K C
  things : ThingsAt K C
  d19 : DefAt K mg "is_integer_within" s_is_integer_within
  d20 : DefAt K mg "is_lot" s_is_lot
  d21 : DefAt K mg "is_pair" s_is_pair
  d22 : DefAt K mg "is_parting" s_is_parting
  d23 : DefAt K mg "check_things" s_check_things
  d24 : DefAt K mg "check_pair" s_check_pair
  d25 : DefAt K mg "check_parting" s_check_parting
  d26 : DefAt K mg "lots_of" s_lots_of
  d27 : DefAt K mg "pairs_of" s_pairs_of
  d28 : DefAt K mg "is_parted" s_is_parted
  d29 : DefAt K mg "other_lot" s_other_lot
  d30 : DefAt K mg "both_ways" s_both_ways
  d31 : DefAt K mg "is_distance" s_is_distance
  d32 : DefAt K mg "is_distance_of" s_is_distance_of
  d33 : DefAt K mg "check_distances" s_check_distances
  d34 : DefAt K mg "check_table" s_check_table
  d35 : DefAt K mg "partings" s_partings
  d36 : DefAt K mg "parts" s_parts
  d37 : DefAt K mg "cross" s_cross
  d38 : DefAt K mg "clash" s_clash
  d39 : DefAt K mg "partners" s_partners
  d40 : DefAt K mg "partner" s_partner
  l1 : DefAt K mg "_law_urn" s_law_urn
  l2 : DefAt K mg "_law_cast" s_law_cast
  l3 : DefAt K mg "_law_pick" s_law_pick
  l4 : DefAt K mg "_law_shuffled" s_law_shuffled
  l5 : DefAt K mg "_law_names" s_law_names
  l6 : DefAt K mg "_law_twos" s_law_twos
  l7 : DefAt K mg "_law_both" s_law_both
  l8 : DefAt K mg "_law_made" s_law_made
  l9 : DefAt K mg "_law_lots" s_law_lots
  l10 : DefAt K mg "_law_splits" s_law_splits
  l11 : DefAt K mg "_law_summed" s_law_summed
  l12 : DefAt K mg "_law_shortened" s_law_shortened
  l13 : DefAt K mg "_law_world" s_law_world
  l14 : DefAt K mg "_law_fours" s_law_fours
  l15 : DefAt K mg "_law_do_clash" s_law_do_clash
  l16 : DefAt K mg "_law_heard" s_law_heard
  l17 : DefAt K mg "_law_do_cross" s_law_do_cross
  l18 : DefC K mg "_law_right" s_law_right c
  l19 : DefAt K mg "law" s_law
theorem all_ok {c Tp : Addr} (A : AllD K mg C c) (TB : LamX.TabB base mg c Tp) : ∀ f fd, Fun K "law" "law" s_law f fd → FnOkG P w K mg base 9 f fd ["_law_script"] (sp_law K Tp) := by
  have T := A.T
  have iiw : Can P w K mg base 1 "is_integer_within" _ _ sp_iiw := can_of A.d19 (ps := ["value", "least", "most"]) (fun _ _ _ _ _ _ us hl => match us, hl with | [_, _, _], _ => rfl) fun f fd F => ok_iiw F T
  have lot : Can P w K mg base 1 "is_lot" _ _ sp_is_lot := can_of A.d20 (ps := ["value", "letters"]) (fun _ _ _ _ _ _ us hl => match us, hl with | [_, _], _ => rfl) fun f fd F => ok_is_lot F T
  have pair : Can P w K mg base 2 "is_pair" _ _ sp_is_pair := can_of A.d21 (ps := ["value", "letters"]) (fun _ _ _ _ _ _ us hl => match us, hl with | [_, _], _ => rfl) fun f fd F => ok_is_pair F T lot
  have parting : Can P w K mg base 2 "is_parting" _ _ sp_is_parting := can_of A.d22 (ps := ["value", "things"]) (fun _ _ _ _ _ _ us hl => match us, hl with | [_, _], _ => rfl) fun f fd F => ok_is_parting F T lot
  have cThings : Can P w K mg base 2 "check_things" _ _ sp_chkThings := can_of A.d23 (ps := ["things"]) (fun _ _ _ _ _ _ us hl => match us, hl with | [_], _ => rfl) fun f fd F => ok_chkThings F T lot
  have cPair : Can P w K mg base 3 "check_pair" _ _ sp_chkPair := can_of A.d24 (ps := ["things", "pair"]) (fun _ _ _ _ _ _ us hl => match us, hl with | [_, _], _ => rfl) fun f fd F => ok_chkPair F T pair
  have cParting : Can P w K mg base 3 "check_parting" _ _ sp_chkParting := can_of A.d25 (ps := ["things", "parting"]) (fun _ _ _ _ _ _ us hl => match us, hl with | [_, _], _ => rfl) fun f fd F => ok_chkParting F T parting
  have lotsOf : Can P w K mg base 1 "lots_of" _ _ sp_lots_of := can_of A.d26 (ps := ["letters", "least"]) (fun _ _ _ _ _ _ us hl => match us, hl with | [_, _], _ => rfl) fun f fd F => ok_lots_of F T
  have pairsOf : Can P w K mg base 1 "pairs_of" _ _ sp_pairs_of := can_of A.d27 (ps := ["letters"]) (fun _ _ _ _ _ _ us hl => match us, hl with | [_], _ => rfl) fun f fd F => ok_pairs_of F T
  have parted : Can P w K mg base 1 "is_parted" _ _ sp_is_parted := can_of A.d28 (ps := ["parting", "pair"]) (fun _ _ _ _ _ _ us hl => match us, hl with | [_, _], _ => rfl) fun f fd F => ok_is_parted F T
  have other : Can P w K mg base 1 "other_lot" _ _ sp_other_lot := can_of A.d29 (ps := ["things", "parting"]) (fun _ _ _ _ _ _ us hl => match us, hl with | [_, _], _ => rfl) fun f fd F => ok_other_lot F T
  have bothW : Can P w K mg base 1 "both_ways" _ _ sp_both_ways := can_of A.d30 (ps := ["places", "rows"]) (fun _ _ _ _ _ _ us hl => match us, hl with | [_, _], _ => rfl) fun f fd F => ok_both_ways F T
  have dist : Can P w K mg base 2 "is_distance" _ _ sp_is_distance := can_of A.d31 (ps := ["value"]) (fun _ _ _ _ _ _ us hl => match us, hl with | [_], _ => rfl) fun f fd F => ok_is_distance F T iiw
  have distOf : Can P w K mg base 3 "is_distance_of" _ _ sp_is_distance_of := can_of A.d32 (ps := ["value", "pair"]) (fun _ _ _ _ _ _ us hl => match us, hl with | [_, _], _ => rfl) fun f fd F => ok_is_distance_of F T dist
  have cDist : Can P w K mg base 4 "check_distances" _ _ sp_check_distances := can_of A.d33 (ps := ["things", "distances"]) (fun _ _ _ _ _ _ us hl => match us, hl with | [_, _], _ => rfl) fun f fd F => ok_check_distances F T pairsOf distOf
  have table : CanM P w K mg base 5 "Table" C ["self", "things", "distances"] (sp_Table C) := by
    obtain ⟨f, fd, M, F⟩ := A.init
    exact ⟨f, fd, T.g_Table, M, F.binds (fun _ _ _ _ _ _ us hl => match us, hl with | [_, _, _], _ => rfl), ok_Table F T A.TC cThings cDist bothW⟩
  have thingsP : CTh P w K mg base C := by
    obtain ⟨p, g, fd, hp, F⟩ := A.things
    obtain ⟨oc, od, kV, doc, pm, an, cdv, ct, osl, rfl, lk, hcd⟩ := F.ex
    exact ⟨p, g, _, hp, fn_getter lk hcd sc_things rfl rfl T.cl A.TC.nT, F.binds (fun _ _ _ _ _ _ us hl => match us, hl with | [_], _ => rfl)⟩
  have cTable : Can P w K mg base 1 "check_table" _ _ (sp_check_table C) := can_of A.d34 (ps := ["table"]) (fun _ _ _ _ _ _ us hl => match us, hl with | [_], _ => rfl) fun f fd F => ok_check_table F T A.TI
  have partings : Can P w K mg base 3 "partings" _ _ (sp_partings C) := can_of A.d35 (ps := ["table"]) (fun _ _ _ _ _ _ us hl => match us, hl with | [_], _ => rfl) fun f fd F => ok_partings F T thingsP cTable lotsOf
  have parts : Can P w K mg base 4 "parts" _ _ (sp_parts C) := can_of A.d36 (ps := ["table", "parting", "pair"]) (fun _ _ _ _ _ _ us hl => match us, hl with | [_, _, _], _ => rfl) fun f fd F => ok_parts F T thingsP cTable cParting cPair parted
  have cross : Can P w K mg base 4 "cross" _ _ (sp_cross C) := can_of A.d37 (ps := ["table", "parting", "other_parting"]) (fun _ _ _ _ _ _ us hl => match us, hl with | [_, _, _], _ => rfl) fun f fd F => ok_cross F T thingsP cTable cParting other
  have partner : Can P w K mg base 2 "partner" _ _ sp_partner := can_of A.d40 (ps := ["parting", "four"]) (fun _ _ _ _ _ _ us hl => match us, hl with | [_, _], _ => rfl) fun f fd F => ok_partner F T parted
  have partners : Can P w K mg base 3 "partners" _ _ sp_partners := can_of A.d39 (ps := ["three", "four"]) (fun _ _ _ _ _ _ us hl => match us, hl with | [_, _], _ => rfl) fun f fd F => ok_partners F T partner
  have clash : Can P w K mg base 4 "clash" _ _ (sp_clash C) := can_of A.d38 (ps := ["table", "parting", "other_parting", "third_parting"]) (fun _ _ _ _ _ _ us hl => match us, hl with | [_, _, _, _], _ => rfl) fun f fd F => ok_clash F T thingsP cTable cParting partners
  have urn : Can P w K mg base 1 "_law_urn" _ _ (sp_urn K) := can_of A.l1 (ps := ["_law_cells", "_law_turn"]) (fun _ _ _ _ _ _ us hl => match us, hl with | [_, _], _ => rfl) fun f fd F => ok_urn F T
  have cast : Can P w K mg base 1 "_law_cast" _ _ sp_cast := can_of A.l2 (ps := ["_law_urn_here", "_law_size"]) (fun _ _ _ _ _ _ us hl => match us, hl with | [_, _], _ => rfl) fun f fd F => ok_cast F T
  have pick : Can P w K mg base 2 "_law_pick" _ _ (sp_pick K) := can_of A.l3 (ps := ["_law_urn_here", "_law_items"]) (fun _ _ _ _ _ _ us hl => match us, hl with | [_, _], _ => rfl) fun f fd F => ok_pick F T cast
  have shuffled : Can P w K mg base 2 "_law_shuffled" _ _ sp_shuffled := can_of A.l4 (ps := ["_law_urn_here", "_law_items"]) (fun _ _ _ _ _ _ us hl => match us, hl with | [_, _], _ => rfl) fun f fd F => ok_shuffled F T cast
  have names : Can P w K mg base 3 "_law_names" _ _ sp_names := can_of A.l5 (ps := ["_law_urn_here", "_law_least", "_law_most"]) (fun _ _ _ _ _ _ us hl => match us, hl with | [_, _, _], _ => rfl) fun f fd F => ok_names F T cast shuffled
  have twos : Can P w K mg base 1 "_law_twos" _ _ sp_twos := can_of A.l6 (ps := ["_law_names_here"]) (fun _ _ _ _ _ _ us hl => match us, hl with | [_], _ => rfl) fun f fd F => ok_twos F T
  have both : Can P w K mg base 2 "_law_both" _ _ sp_both := can_of A.l7 (ps := ["_law_names_here", "_law_known"]) (fun _ _ _ _ _ _ us hl => match us, hl with | [_, _], _ => rfl) fun f fd F => ok_both F T twos
  have made : Can P w K mg base 7 "_law_made" _ _ (sp_made C) := can_of A.l8 (ps := ["_law_names_here", "_law_far"]) (fun _ _ _ _ _ _ us hl => match us, hl with | [_, _], _ => rfl) fun f fd F => ok_made F T twos table
  have lots : Can P w K mg base 1 "_law_lots" _ _ sp_lots := can_of A.l9 (ps := ["_law_names_here"]) (fun _ _ _ _ _ _ us hl => match us, hl with | [_], _ => rfl) fun f fd F => ok_lots F T
  have splits : Can P w K mg base 1 "_law_splits" _ _ (sp_splits2 K) := can_of A.l10 (ps := ["_law_lot", "_law_two"]) (fun _ _ _ _ _ _ us hl => match us, hl with | [_, _], _ => rfl) fun f fd F => ok_splits2 F T
  have summed : Can P w K mg base 2 "_law_summed" _ _ sp_summed := can_of A.l11 (ps := ["_law_names_here", "_law_marks"]) (fun _ _ _ _ _ _ us hl => match us, hl with | [_, _], _ => rfl) fun f fd F => ok_summed F T twos splits
  have shortened : Can P w K mg base 1 "_law_shortened" _ _ sp_shortened := can_of A.l12 (ps := ["_law_names_here", "_law_far"]) (fun _ _ _ _ _ _ us hl => match us, hl with | [_, _], _ => rfl) fun f fd F => ok_shortened F T
  have world : Can P w K mg base 4 "_law_world" _ _ sp_world := can_of A.l13 (ps := ["_law_urn_here", "_law_least", "_law_most"]) (fun _ _ _ _ _ _ us hl => match us, hl with | [_, _, _], _ => rfl) fun f fd F => ok_world F T cast pick shuffled names twos both shortened summed
  have fours : Can P w K mg base 1 "_law_fours" _ _ sp_fours := can_of A.l14 (ps := ["_law_names_here"]) (fun _ _ _ _ _ _ us hl => match us, hl with | [_], _ => rfl) fun f fd F => ok_fours F T
  have doClash : Can P w K mg base 2 "_law_do_clash" _ _ sp_do_clash := can_of A.l15 (ps := ["_law_names_here", "_law_lots_here"]) (fun _ _ _ _ _ _ us hl => match us, hl with | [_, _], _ => rfl) fun f fd F => ok_do_clash F T fours
  have doCross : Can P w K mg base 1 "_law_do_cross" _ _ sp_do_cross := can_of A.l17 (ps := ["_law_names_here", "_law_one", "_law_two"]) (fun _ _ _ _ _ _ us hl => match us, hl with | [_, _, _], _ => rfl) fun f fd F => ok_do_cross F T
  have heard : Heard K mg := by
    obtain ⟨f, fd, hm, F⟩ := A.l16
    exact ⟨f, fd, hm, F, F.binds (fun _ _ _ _ _ _ us hl => match us, hl with | [_], _ => rfl)⟩
  have right : CanG P w K mg base 8 "_law_right" ["_law_urn_here"] (sp_right Tp) := by
    obtain ⟨f, fd, hm, F⟩ := A.l18
    have ok := ok_right (P := P) (w := w) F T TB heard world made lots twos pick splits doCross doClash partings parts cross clash
    obtain ⟨oc, od, kV, doc, pm, an, ct, osl, rfl, lk, hcd⟩ := F.ex
    exact ⟨f, _, hm, F.kp, .all (fun us hl => match us, hl with | [_], _ => rfl), ok⟩
  exact fun f fd F => ok_law F T urn right
/-! ### the walk -/
theorem walk_G {l : PySem.W.OpenLaw} {n : Nat} {q : Program} {loose : List Str} {XP : (Str → Option Value) → Heap → Prop} {YP : World → Heap → Prop} {d : DefRec} {K : Params → PySem.W.Frag} {Tp : Addr} (hn : l.most = some n) (hn2 : n ≤ 1000) (hdf : d.params.defaults = []) (hdn : d.name = "law") (hr : Room 9 callerA)
    (hY : ∀ (w : World) (h : Heap), YP w h → (K w.params).In h ∧ h.get? Tp = some { cls := .none, data := .fields #[] })
    (F : ∀ (w : World) (mg : Str → Option Value) (h : Heap), (K w.params).In h → h.Ns mainGlobals mg → ∃ C c : Addr, AllD (K w.params) mg C c ∧ PySem.W.codeHdIn (K w.params) c Tp = true ∧ (K w.params).lookup Tp = none) :
    PySem.W.WalkO q loose XP YP l.row.toRowW d [] (fun f vs => PySem.call f vs) := by
  refine Att.attach_callB hn hdf fun w s₀ s₁ mg mb fa o pm cd doc a vs ns G Y ho hd hcd hmg hobj hints hlen hbits hg => ?_
  obtain ⟨KX, hT⟩ := hY w _ Y
  obtain ⟨C, c, A, hcode, nT⟩ := F w mg _ KX G.T.g
  obtain ⟨f, fd, hm, FF⟩ := A.l19
  rw [hdn, hm] at hmg
  have hf := Option.some.inj hmg
  cases hf
  have z : sizeLine = 16777216 := sizeLine_eq
  refine law_callG (K := K w.params) (c := c) (Tp := Tp) (x := "_law_script") (sp := sp_law (K w.params) Tp) KX G.T.g G.T.b G.T.builtins G.T.nolimit hg hT nT (PySem.W.codeHd_of_K KX hcode) G.T.bmain hobj hints (by omega) hr (fun bh _ _ TB => all_ok A TB _ fd FF) (fun s u => ?_) fun H hH hS => ⟨a, ns, rfl, hS, by omega, fun p hp => ?_, fun _ => rfl⟩
  · obtain ⟨oc, od, kV, doc, pm, an, cdv, ct, osl, rfl, lk, hcd⟩ := FF.ex
    exact .of_eq rfl
  · rw [List.mem_singleton.mp hp]
    exact LamX.TabS.nil hH
theorem txt_mk {K : PySem.W.Frag} {h : Heap} {mg : Str → Option Value} {C : Addr} {tl t2 t7 tm : Tok} (X : K.In h) (G : h.Ns mainGlobals mg) (cl : Cls K C) (nL : PySem.W.nsIn K mainGlobals "LETTERS" = some (some (.str "abcdefghijklmnopqrstuvwxyz" tl)))
    (n2 : PySem.W.nsIn K mainGlobals "LEAST_THINGS" = some (some (.int 2 t2))) (n7 : PySem.W.nsIn K mainGlobals "MOST_THINGS" = some (some (.int 7 t7))) (nM : PySem.W.nsIn K mainGlobals "MOST_DISTANCE" = some (some (.int 1000000 tm)))
    (nT : PySem.W.nsIn K mainGlobals "Table" = some (some (.ref C))) (nC : PySem.W.nsIn K mainGlobals "combinations" = some (some (.type "itertools.combinations")))
    (z_isinstance : PySem.W.nsIn K mainGlobals "isinstance" = some none) (z_len : PySem.W.nsIn K mainGlobals "len" = some none) (z_int : PySem.W.nsIn K mainGlobals "int" = some none) (z_bool : PySem.W.nsIn K mainGlobals "bool" = some none) (z_str : PySem.W.nsIn K mainGlobals "str" = some none) (z_tuple : PySem.W.nsIn K mainGlobals "tuple" = some none) (z_list : PySem.W.nsIn K mainGlobals "list" = some none) (z_dict : PySem.W.nsIn K mainGlobals "dict" = some none) (z_range : PySem.W.nsIn K mainGlobals "range" = some none) (z_enumerate : PySem.W.nsIn K mainGlobals "enumerate" = some none) (z_sorted : PySem.W.nsIn K mainGlobals "sorted" = some none) (z_any : PySem.W.nsIn K mainGlobals "any" = some none) (z_all : PySem.W.nsIn K mainGlobals "all" = some none) (z_min : PySem.W.nsIn K mainGlobals "min" = some none) (z_max : PySem.W.nsIn K mainGlobals "max" = some none) (z_abs : PySem.W.nsIn K mainGlobals "abs" = some none) (z_sum : PySem.W.nsIn K mainGlobals "sum" = some none) (z_divmod : PySem.W.nsIn K mainGlobals "divmod" = some none) (z_repr : PySem.W.nsIn K mainGlobals "repr" = some none) : Txt K mg C :=
  ⟨cl, ⟨tl, PySem.W.mg_of X G nL⟩, ⟨t2, PySem.W.mg_of X G n2⟩, ⟨t7, PySem.W.mg_of X G n7⟩, ⟨tm, PySem.W.mg_of X G nM⟩, PySem.W.mg_of X G nT, PySem.W.mg_of X G nC, PySem.W.mg_none_of X G z_isinstance, PySem.W.mg_none_of X G z_len, PySem.W.mg_none_of X G z_int, PySem.W.mg_none_of X G z_bool, PySem.W.mg_none_of X G z_str, PySem.W.mg_none_of X G z_tuple, PySem.W.mg_none_of X G z_list, PySem.W.mg_none_of X G z_dict, PySem.W.mg_none_of X G z_range, PySem.W.mg_none_of X G z_enumerate, PySem.W.mg_none_of X G z_sorted, PySem.W.mg_none_of X G z_any, PySem.W.mg_none_of X G z_all, PySem.W.mg_none_of X G z_min, PySem.W.mg_none_of X G z_max, PySem.W.mg_none_of X G z_abs, PySem.W.mg_none_of X G z_sum, PySem.W.mg_none_of X G z_divmod, PySem.W.mg_none_of X G z_repr⟩
end
end K20
set_option Elab.async false
set_option linter.all false
set_option maxRecDepth 100000
set_option maxHeartbeats 4000000
namespace K20
open PySem PySem.Spec PyProof.Rows L2 Nf
section
/-! ### what stands where, read off the written part -/
def fAt (K : PySem.W.Frag) (x : Str) : Addr := match PySem.W.nsIn K mainGlobals x with | some (some (.ref f)) => f | _ => 0
def tAt (K : PySem.W.Frag) (x : Str) : Tok := match PySem.W.nsIn K mainGlobals x with | some (some (.str _ t)) => t | some (some (.int _ t)) => t | _ => default
def oAt (K : PySem.W.Frag) (f : Addr) : Obj := (K.lookup f).getD default
def dAt (K : PySem.W.Frag) (f : Addr) : FuncData := match (oAt K f).data with | .func fd => fd | _ => default
def cAt (K : PySem.W.Frag) (f : Addr) : Addr := match (dAt K f).code with | .ref c => c | _ => 0
def mAt (K : PySem.W.Frag) (C : Addr) (x : Str) : Addr := match PySem.W.findIn K (.ref C) x with | some (some (.ref f)) => f | _ => 0
def gAt2 (K : PySem.W.Frag) (p : Addr) : Addr := match PySem.W.recIn K p "property" with | some (.ref g :: _) => g | _ => 0
def rAt (K : PySem.W.Frag) (p : Addr) : List Value := match PySem.W.recIn K p "property" with | some (_ :: r) => r | _ => []
/-- the object of a def, told by what it must be -/
def fnO (K : PySem.W.Frag) (x q : Str) (st : Stmt) (f : Addr) (cd : Value) : Obj := ⟨(oAt K f).cls, (oAt K f).dict, .func (PySem.W.fnOf x q (defArgs st) (defBody st) (defScope st) .none (dAt K f).kwdefaults (dAt K f).doc (dAt K f).pyModule (dAt K f).annotations cd (dAt K f).closureTuple), (oAt K f).slots⟩
variable {K : PySem.W.Frag} {h : Heap} {mg : Str → Option Value}
theorem def_at {x : Str} {st : Stmt} (X : K.In h) (G : h.Ns mainGlobals mg) (e1 : PySem.W.nsIn K mainGlobals x = some (some (.ref (fAt K x)))) (e2 : K.lookup (fAt K x) = some (fnO K x x st (fAt K x) (dAt K (fAt K x)).code)) (e3 : PySem.W.codeIn K (dAt K (fAt K x)).code x = true) (e4 : PySem.W.keepIn K (.ref (fAt K x)) = true) : DefAt K mg x st := def_mk X G e1 e2 e3 e4
theorem defC_at {x : Str} {st : Stmt} (X : K.In h) (G : h.Ns mainGlobals mg) (e1 : PySem.W.nsIn K mainGlobals x = some (some (.ref (fAt K x)))) (e2 : K.lookup (fAt K x) = some (fnO K x x st (fAt K x) (.ref (cAt K (fAt K x))))) (e3 : PySem.W.codeIn K (.ref (cAt K (fAt K x))) x = true) (e4 : PySem.W.keepIn K (.ref (fAt K x)) = true) : DefC K mg x st (cAt K (fAt K x)) := defC_mk X G e1 e2 e3 e4
theorem init_at {C : Addr} (mk : PySem.W.makesIn K C = true) (a : PySem.W.findIn K (.ref C) "__init__" = some (some (.ref (mAt K C "__init__")))) (i : PySem.W.isFn K (.ref (mAt K C "__init__")) = true) (kc : PySem.W.keepIn K (.ref C) = true)
    (l : K.lookup (mAt K C "__init__") = some (fnO K "__init__" "Table.__init__" s_Table_init (mAt K C "__init__") (dAt K (mAt K C "__init__")).code)) (c : PySem.W.codeIn K (dAt K (mAt K C "__init__")).code "Table.__init__" = true) (k : PySem.W.keepIn K (.ref (mAt K C "__init__")) = true) : InitAt K C := init_mk mk a i kc l c k
theorem things_at {C : Addr} (a : PySem.W.findIn K (.ref C) "things" = some (some (.ref (mAt K C "things")))) (b : PySem.W.specialIn K (.ref (mAt K C "things")) "__get__" = some (some (.builtin "property.__get__"))) (t : PySem.W.takesIn K (.ref (mAt K C "things")) = some true) (r : PySem.W.recIn K (mAt K C "things") "property" = some (.ref (gAt2 K (mAt K C "things")) :: rAt K (mAt K C "things")))
    (l : K.lookup (gAt2 K (mAt K C "things")) = some (fnO K "things" "Table.things" s_things (gAt2 K (mAt K C "things")) (dAt K (gAt2 K (mAt K C "things"))).code)) (c : PySem.W.codeIn K (dAt K (gAt2 K (mAt K C "things"))).code "Table.things" = true) (k : PySem.W.keepIn K (.ref (gAt2 K (mAt K C "things"))) = true) : ThingsAt K C := things_mk a b t r l c k
end
end K20
set_option maxHeartbeats 0
open PySem PySem.W PyProof.Rows
open_top head for PySem.Challenge.rw_nearandfar_k20_whole_partings_of_things
theorem PySem.Challenge.cw_nearandfar_k20_whole_partings_of_things_holds : PySem.Challenge.rw_nearandfar_k20_whole_partings_of_things.Holds := by
  refine head (K20.walk_G (K := head.heap_39) (Tp := 551) rfl (by decide) rfl rfl ⟨rfl, by decide +kernel, by decide +kernel⟩ (fun w h Y => ⟨PySem.W.km_in_of Y, PySem.W.km_tabs_of Y 551 (List.mem_singleton.mpr rfl)⟩) ?F)
  intro w mg h X G
  refine ⟨K20.fAt (head.heap_39 w.params) "Table", K20.cAt (head.heap_39 w.params) (K20.fAt (head.heap_39 w.params) "_law_right"), ?A, ?code, ?nT⟩
  case code => kernel_rfl
  case nT => kernel_rfl
  case A =>
    constructor
    case T =>
      refine K20.txt_mk (tl := K20.tAt (head.heap_39 w.params) "LETTERS") (t2 := K20.tAt (head.heap_39 w.params) "LEAST_THINGS") (t7 := K20.tAt (head.heap_39 w.params) "MOST_THINGS") (tm := K20.tAt (head.heap_39 w.params) "MOST_DISTANCE") X G ⟨?c1, ?c2, ?c3, ?c4⟩ ?nL ?n2 ?n7 ?nM ?nT ?nC ?zisinstance ?zlen ?zint ?zbool ?zstr ?ztuple ?zlist ?zdict ?zrange ?zenumerate ?zsorted ?zany ?zall ?zmin ?zmax ?zabs ?zsum ?zdivmod ?zrepr
      all_goals kernel_rfl
    case TC =>
      refine ⟨?_, ?_, ?_⟩
      all_goals (show PySem.W.findIn _ _ _ = _; kernel_rfl)
    case TI =>
      refine ⟨?_, ?_, ?_, ?_⟩
      all_goals kernel_rfl
    case init =>
      refine K20.init_at ?_ ?_ ?_ ?_ ?_ ?_ ?_
      all_goals kernel_rfl
    case things =>
      refine K20.things_at ?_ ?_ ?_ ?_ ?_ ?_ ?_
      all_goals kernel_rfl
    case l18 =>
      refine K20.defC_at X G ?_ ?_ ?_ ?_
      all_goals kernel_rfl
    all_goals
      refine K20.def_at X G ?_ ?_ ?_ ?_
      all_goals kernel_rfl
#print axioms PySem.Challenge.cw_nearandfar_k20_whole_partings_of_things_holds
