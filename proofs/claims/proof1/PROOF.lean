import PyProof.Rows.All
import Wide.All
import OpenK.AllK
import Wide.FinOn
import Open.SpecLaws
import KE.OsGo
import KE.KeyNested
import KE.KDictKeyed
import HandS.ForSpec
import HandS.Comp
import HandS.Dict
import HandS.Iter
import HandS.Walk
import HandS.TupLen
import HandS.Conv
import HandS.More
import HandS.WordsDict
import KE.GoesZip
import KE.GoesMore
import KE.KRevIter
import HandS.Rev
import HandS.CallLocal
import PyProof.ListNew
import HandS.TupAny
import PyProof.Rows.TupTab
import HandS.TryOnly
import PySem.Challenge.RW_openlanes_s01_answers
set_option Elab.async false
set_option linter.all false
set_option maxRecDepth 100000
set_option maxHeartbeats 8000000
/-! A dict of True whose keys are pairs of a number and a tuple of numbers. -/
namespace L2
open PySem PySem.Spec PyProof.Rows

/-- a state as a key: a place and ages -/
abbrev SK := Int × List Int
def nkey (s : SK) : NestedKey := .tup [.num s.1, .tup (s.2.map NestedKey.num)]
theorem nums_inj : ∀ {a b : List Int}, a.map NestedKey.num = b.map NestedKey.num → a = b
  | [], [], _ => rfl
  | [], _ :: _, h => by simp at h
  | _ :: _, [], h => by simp at h
  | x :: a, y :: b, h => by
    simp only [List.map_cons, List.cons.injEq, NestedKey.num.injEq] at h
    rw [h.1, nums_inj h.2]
theorem nkey_inj {a b : SK} (h : nkey a = nkey b) : a = b := by
  unfold nkey at h
  simp only [NestedKey.tup.injEq, List.cons.injEq, NestedKey.num.injEq, and_true] at h
  exact Prod.ext h.1 (nums_inj h.2)
theorem nums_depth : ∀ l : List Int, NestedKey.depthAll (l.map NestedKey.num) = 0
  | [] => rfl
  | x :: l => by
    show max (NestedKey.depth (.num x)) (NestedKey.depthAll (l.map NestedKey.num)) = 0
    rw [nums_depth l] <;> rfl
theorem nkey_depth (s : SK) : (nkey s).depth ≤ 8 := by
  unfold nkey
  simp only [NestedKey.depth, NestedKey.depthAll, nums_depth]
  decide
/-- the tuple at a is the key s -/
def KeyAt (H : Hp) (a : Addr) (s : SK) : Prop := ∃ b, H a = some (.tup [.int s.1, .ref b]) ∧ H b = some (.tup (s.2.map V.int))
theorem nested_ints {h : Heap} : ∀ {l : List Int} {us : List Value}, Vals (l.map V.int) us → NestedAll h (l.map NestedKey.num) us
  | [], us, r => by cases r; exact .nil
  | x :: l, us, r => by
    rw [List.map_cons] at r
    cases r with
    | cons h1 t =>
      obtain ⟨tk, rfl⟩ := h1
      exact .cons (.int x tk) (nested_ints t)
theorem keyAt_is {P : Program} {w : World} {H : Hp} {h : Heap} {a : Addr} {s : SK} (ok : HOk P w H h) (k : KeyAt H a s) : (nestedKind P w).is h (nkey s) a := by
  refine ⟨?_, nkey_depth s⟩
  obtain ⟨b, ha, hb⟩ := k
  obtain ⟨_, its, r, o, e1, e2, n, e3⟩ := (show ObjOk P w H h a (.tup [.int s.1, .ref b]) from ok a _ ha)
  obtain ⟨u, w', rfl, ru, rw'⟩ := vals2 r
  obtain ⟨t, rfl⟩ := ru
  obtain rfl : w' = Value.ref b := rw'
  obtain ⟨_, its2, r2, o2, f1, f2, n2, f3⟩ := (show ObjOk P w H h b (.tup (s.2.map V.int)) from ok b _ hb)
  refine .tup e1 e2 e3 ?_
  show NestedAll h [.num s.1, .tup (s.2.map NestedKey.num)] [Value.int s.1 t, Value.ref b]
  exact .cons (.int _ _) (.cons (.tup f1 f2 f3 (by simpa using nested_ints r2)) .nil)
theorem KeyAt.same {H H' : Hp} {a : Addr} {s : SK} (e : Same H H') (k : KeyAt H a s) : KeyAt H' a s :=
  let ⟨b, h1, h2⟩ := k
  ⟨b, e _ _ h1, e _ _ h2⟩

/-- the dict at d: its keys in their order, each with its tuple's address; every value is True -/
def SDp (w : World) (d : Addr) (xs : List (SK × Addr)) (h : Heap) : Prop :=
  xs.length ≤ sizeLine ∧ (d == sysModules) = false ∧ (xs.map (·.1)).Nodup ∧
  ∃ o es ep, h.get? d = some o ∧ o.ExactDict ∧ o.data = .dict es ep ∧ es.toList = xs.map fun p => (⟨(nkey p.1).hash w, .ref p.2, .bool true⟩ : DictEntry)
def SD (w : World) (d : Addr) (xs : List (SK × Addr)) : HO := .ext (SDp w d xs)
theorem sd_ok {P : Program} {w : World} {H : Hp} {h : Heap} {d : Addr} {xs : List (SK × Addr)} (x : SDp w d xs h) : ObjOk P w H h d (SD w d xs) := by
  refine ⟨x, ?_, fun h1 h2 y k => ?_⟩
  · obtain ⟨_, _, _, o, _, _, e, _⟩ := x
    exact ⟨o, e⟩
  · obtain ⟨z, a, b, o, es, ep, e, r⟩ := y
    exact ⟨z, a, b, o, es, ep, k o e, r⟩
theorem sd_rd {P : Program} {w : World} {H : Hp} {h : Heap} {d : Addr} {xs : List (SK × Addr)} (ok : HOk P w H h) (e : Rd H d (SD w d xs)) : SDp w d xs h :=
  (show ObjOk P w H h d (SD w d xs) from e.ok ok).1
/-- all its keys stand -/
def KeysAt (H : Hp) (xs : List (SK × Addr)) : Prop := ∀ p ∈ xs, KeyAt H p.2 p.1
theorem KeysAt.same {H H' : Hp} {xs : List (SK × Addr)} (e : Same H H') (k : KeysAt H xs) : KeysAt H' xs := fun p hp => (k p hp).same e
def sdx (xs : List (SK × Addr)) : List (NestedKey × Addr × Value) := xs.map fun p => (nkey p.1, p.2, .bool true)
theorem sd_of {P : Program} {w : World} {H : Hp} {h : Heap} {d : Addr} {xs : List (SK × Addr)} (ok : HOk P w H h) (ks : KeysAt H xs) (x : SDp w d xs h) : h.DictOfH (nestedKind P w) d (sdx xs) := by
  obtain ⟨z, hs, nd, o, es, ep, e1, e2, e3, e4⟩ := x
  refine ⟨o, es, ep, e1, e2, e3, ?_, fun y hy => ?_, ?_⟩
  · rw [e4, sdx, List.map_map] <;> rfl
  · obtain ⟨p, hp, rfl⟩ := List.mem_map.mp hy
    exact keyAt_is ok (ks p hp)
  · have q : (sdx xs).map (·.1) = (xs.map (·.1)).map nkey := by
      rw [sdx, List.map_map, List.map_map] <;> rfl
    rw [q]
    exact List.Nodup.map_of_inj nd
where
  List.Nodup.map_of_inj : ∀ {l : List SK}, l.Nodup → (l.map nkey).Nodup
    | [], _ => List.nodup_nil
    | a :: l, h => by
      obtain ⟨h1, h2⟩ := List.nodup_cons.mp h
      refine List.nodup_cons.mpr ⟨fun m => ?_, List.Nodup.map_of_inj h2⟩
      obtain ⟨b, hb, e⟩ := List.mem_map.mp m
      exact h1 (nkey_inj e ▸ hb)
theorem atKey_sdx : ∀ (xs : List (SK × Addr)) (k : SK), (atKey (sdx xs) (nkey k)).isSome = decide (k ∈ xs.map (·.1))
  | [], k => rfl
  | p :: xs, k => by
    have ih := atKey_sdx xs k
    unfold atKey at ih ⊢
    show (((nkey p.1, p.2, Value.bool true) :: sdx xs).find? _ |>.map (·.2)).isSome = _
    rw [List.find?_cons]
    by_cases e : p.1 = k
    · have e' : decide (nkey p.1 = nkey k) = true := decide_eq_true (by rw [e])
      simp only [e', Option.map_some, Option.isSome_some]
      exact (decide_eq_true (by rw [List.map_cons, e]; exact List.mem_cons_self)).symm
    · have e' : decide (nkey p.1 = nkey k) = false := decide_eq_false fun q => e (nkey_inj q)
      simp only [e']
      rw [ih]
      refine decide_eq_decide.mpr ?_
      rw [List.map_cons, List.mem_cons]
      constructor
      · exact fun h => .inr h
      · rintro (h | h)
        · exact absurd h.symm e
        · exact h

section
variable {X : Cx} {pins : List (Addr × Obj)} {σ : St} {H : Hp} {s : Shared} {a d : Addr} {A : Around} {E : Value → Shared → Prop} {xs : List (SK × Addr)} {k : SK}
/-- a in d -/
theorem sd_in {Q : Value → Shared → Prop} (hu : A.units + 64 < cLine) (I : Inv X pins σ H s) (e : Rd H d (SD X.w d xs)) (ks : KeysAt H xs) (ka : KeyAt H a k) (h : ∀ s', Inv X pins σ H s' → Q (.bool (decide (k ∈ xs.map (·.1)))) s') :
    wpAny (model X.prog X.w) A (compareOp .In (.ref a) (.ref d)) Q E s := by
  have x := sd_rd I.hok e
  refine wpAny_in_heap (knd := nestedKind X.prog X.w) (k := nkey k) (by show A.units + 1 + 8 < cLine; omega) (keyAt_is I.hok ka) x.2.1 (sd_of I.hok ks x) ?_
  rw [atKey_sdx]
  exact h _ (I.tok _)
/-- len(d) -/
theorem sd_len {Q : Value → Shared → Prop} (I : Inv X pins σ H s) (e : Rd H d (SD X.w d xs)) (ks : KeysAt H xs) (h : ∀ t s', Inv X pins σ H s' → Q (.int xs.length t) s') :
    wpAny (model X.prog X.w) A (call (.builtin "len") [.ref d]) Q E s := by
  have x := sd_rd I.hok e
  have hl : (sdx xs).length = xs.length := by rw [sdx, List.length_map]
  refine call_len_dictH x.2.1 (sd_of I.hok ks x) (by rw [hl]; have z := x.1; rw [sizeLine_eq] at z; omega) ?_
  rw [hl]
  exact h _ _ (I.tok _)
/-- d[a] = True, a key that is not there -/
theorem sd_put {Q : Unit → Shared → Prop} (hu : A.units + 64 < cLine) (I : Inv X pins σ H s) (e : H d = some (SD X.w d xs)) (ks : KeysAt H xs) (ka : KeyAt H a k) (hn : k ∉ xs.map (·.1)) (hz : xs.length < sizeLine)
    (h : ∀ s', Inv X pins σ (upd H d (SD X.w d (xs ++ [(k, a)]))) s' → Q () s') :
    wpAny (model X.prog X.w) A (setItem (.ref d) (.ref a) (.bool true)) Q E s := by
  have x := sd_rd I.hok (.inl e)
  have hl : (sdx xs).length = xs.length := by rw [sdx, List.length_map]
  have nn : atKey (sdx xs) (nkey k) = none := by
    have q := atKey_sdx xs k
    rw [decide_eq_false hn] at q
    exact Option.isSome_eq_false_iff.mp q |> Option.isNone_iff_eq_none.mp
  refine wpAny_setItem_heap (knd := nestedKind X.prog X.w) (k := nkey k) (by show A.units + 1 + 8 < cLine; omega) (keyAt_is I.hok ka) (sd_of I.hok ks x) (fun h' dd hs => h _ ?_) (by rw [hl]; exact Nat.le_of_lt hz)
  rw [storedH_new nn] at dd
  obtain ⟨o, es, ep, e1, e2, e3, e4, _, e6⟩ := dd
  refine d_write I (by rw [e]; exact True.intro) hs ⟨o, e1⟩ (sd_ok ⟨?_, x.2.1, ?_, o, es, ep, e1, e2, e3, ?_⟩)
  · rw [List.length_append]
    exact hz
  · rw [List.map_append]
    exact nd_snoc x.2.2.1 hn
  · rw [e4, List.map_append, List.map_append, sdx, List.map_map] <;> rfl
end

/-! ### readings -/
/-- y in d -/
def tSIn (w : World) (ty td : TE) : TE := fun σ H Q => ty σ H fun y H1 => td σ H1 fun x H2 => ∃ (a d : Addr) (k : SK) (xs : List (SK × Addr)), y = .ref a ∧ x = .ref d ∧ Rd H2 d (SD w d xs) ∧ KeysAt H2 xs ∧ KeyAt H2 a k ∧ Q (.bl (decide (k ∈ xs.map (·.1)))) H2
/-- d[y] = True -/
def sSPut (w : World) (td ty tv : TE) : TS := fun D σ H => tv σ H fun v H1 => td σ H1 fun x H2 => ty σ H2 fun y H3 => ∃ (a d : Addr) (k : SK) (xs : List (SK × Addr)), v = .bl true ∧ x = .ref d ∧ y = .ref a ∧ H3 d = some (SD w d xs) ∧ KeysAt H3 xs ∧ KeyAt H3 a k ∧ k ∉ xs.map (·.1) ∧ xs.length < sizeLine ∧ D.nx σ (upd H3 d (SD w d (xs ++ [(k, a)])))
def tSNew (w : World) : TE := fun _ H Q => ∀ p, H p = none → Q (.ref p) (upd H p (SD w p []))
def rSLen (w : World) : List V → Hp → VK → Prop := fun vs H Q => ∃ (d : Addr) (xs : List (SK × Addr)), vs = [.ref d] ∧ Rd H d (SD w d xs) ∧ KeysAt H xs ∧ Q (.int ((xs.length : Nat) : Int)) H
section
variable {X : Cx} {td ty tv : TE} {o i e value : Expr} {pos pos' tpos : Pos}
theorem pc_sin (hu : X.A.units + 64 < cLine) (hi : PE X i ty) (ho : PE X o td) : PC X .In i o (tSIn X.w ty td) := by
  refine ⟨fun pins s σ H Q I h => ?_⟩
  refine thn (hi.run pins s σ H _ I h) fun iv s1 ⟨y, H1, I1, ry, q1⟩ => thn (ho.run pins s1 σ H1 _ I1 q1) fun u s2 ⟨x, H2, I2, rx, a, d, k, xs, ey, ex, e1, e2, e3, q2⟩ => ?_
  subst ex ey
  obtain rfl : u = Value.ref d := rx
  obtain rfl : iv = Value.ref a := ry
  exact sd_in hu I2 e1 e2 e3 fun s3 I3 => ⟨.bl _, H2, I3, rfl, q2⟩
theorem ps_sput (hu : X.A.units + 64 < cLine) (ho : PE X o td) (hi : PE X i ty) (hv : PE X value tv) (hs : swapsWith value (some (.Subscript o i pos')) pos.line X.env = pure false) :
    PS X (.Assign [.Subscript o i pos'] value pos) (sSPut X.w td ty tv) := by
  refine ⟨fun pins s σ H D I h => ?_⟩
  refine wpAny_Assign_Subscript (thn (hv.run pins s σ H _ I h) fun r s1 ⟨v, H1, I1, rv, q1⟩ => thn (ho.run pins s1 σ H1 _ I1 q1) fun u s2 ⟨x, H2, I2, rx, q2⟩ => thn (hi.run pins s2 σ H2 _ I2 q2) fun iv s3 ⟨y, H3, I3, ry, a, d, k, xs, ev, ex, ey, e1, e2, e3, e4, e5, q3⟩ => ?_) hs
  subst ex ev ey
  obtain rfl : u = Value.ref d := rx
  obtain rfl : iv = Value.ref a := ry
  obtain rfl : r = Value.bool true := rv
  exact sd_put hu I3 e1 e2 e3 e4 e5 fun s4 I4 => ⟨σ, _, I4, q3⟩
theorem pe_snew : PE X (.Dict [] [] pos) (tSNew X.w) := ⟨fun pins s σ H Q I h =>
  wpAny_Dict_empty ⟨.ref s.heap.objs.size, _, I.laid (a := s.heap.objs.size) (o := SD X.w s.heap.objs.size []) (t' := s.toks) (fun _ _ q => Heap.get?_push_of_some _ q) (Nat.le_refl _)
    (sd_ok ⟨Nat.zero_le _, beq_eq_false_iff_ne.mpr (Ne.symm (Nat.ne_of_lt I.big)), List.nodup_nil, _, #[], 0, Heap.get?_push_size _ rfl, ⟨rfl, rfl, rfl⟩, rfl, rfl⟩), rfl, h _ (I.hok.fresh (Nat.le_refl _))⟩⟩
theorem call_slen : CallR X (.builtin "len") (rSLen X.w) := by
  intro pins s σ H xs us Q I r h
  obtain ⟨d, ys, rfl, hp, hk, q⟩ := h
  obtain ⟨u, rfl, rx⟩ := vals1 r
  obtain rfl : u = .ref d := rx
  exact sd_len I hp hk fun t s' I' => ⟨.int ((ys.length : Nat) : Int), H, I', ⟨_, rfl⟩, q⟩
end

/-! ### for key in d (locked) -/
def Itsd (w : World) (d : Addr) (o : Obj) (xs : List (SK × Addr)) : It :=
  ⟨fun i H => H d = some (.frz o (SD w d xs)) ∧ i < xs.length, fun i H x H' => H' = H ∧ ∃ p, xs[i]? = some p ∧ x = .ref p.2, fun i H => H d = some (.frz o (SD w d xs)) ∧ xs.length ≤ i⟩
section
variable {X : Cx} {σ : St} {H : Hp} {s : Shared} {d : Addr} {o : Obj} {pins : List (Addr × Obj)}
theorem Inv.frzS {xs : List (SK × Addr)} (I : Inv X pins σ H s) (h : H d = some (.frz o (SD X.w d xs))) :
    (d == sysModules) = false ∧ s.heap.get? d = some o ∧ o.ExactDict ∧ ∃ (es : Array DictEntry) (ep : Nat), o.data = .dict es ep ∧ es.size = xs.length ∧
      ∀ (i : Nat) (p : SK × Addr), xs[i]? = some p → ∃ (en : DictEntry), es[i]? = some en ∧ en.key = .ref p.2 := by
  obtain ⟨hd, x⟩ := I.hok d _ h
  obtain ⟨⟨z, hs, nd, o', es, ep, e1, e2, e3, e4⟩, _⟩ := (show ObjOk X.prog X.w H s.heap d (SD X.w d xs) from x)
  rw [hd] at e1
  cases e1
  refine ⟨hs, hd, e2, es, ep, e3, ?_, fun i p e => ?_⟩
  · rw [← Array.length_toList, e4, List.length_map]
  · refine ⟨⟨(nkey p.1).hash X.w, .ref p.2, .bool true⟩, ?_, rfl⟩
    rw [← Array.getElem?_toList, e4, List.getElem?_map, e] <;> rfl
end
section
variable {P : Program} {w : World} {K : PySem.W.Frag} {d : Addr} {o : Obj} {es : Array DictEntry}
variable {tg : Expr} {ep : Nat}
theorem turn_sd {xs : List (SK × Addr)} (it : Addr) (hod : o.data = .dict es ep) :
    Turn P w K tg (Itsd w d o xs) [it] it (fun i h => h.IsKeyIter it d i xs.length ep) := by
  -- all but the two ways of a turn is said by the library of any dict of so many keys
  have T := turn_keysT (P := P) (w := w) (K := K) (tg := tg) (d := d) (o := o) (es := es) (ep := ep) (kvs := xs.map fun _ => (([] : List Key), V.non)) it hod
  rw [show (xs.map fun _ => (([] : List Key), V.non)).length = xs.length from List.length_map _] at T
  refine ⟨T.mem, T.obj, T.keep, ?_, ?_, T.self⟩
  · intro X eP ew eK hcalm j pins s σ H E I free st ⟨hd, lt⟩
    subst eP ew eK
    have fr := free it List.mem_cons_self
    have turned : ∀ h', Heap.SameBut it s.heap h' → Inv X pins σ H { s with heap := h' } := fun h' sb =>
      I.turned (t' := s.toks) (fun b ob ne e => (sb.2 b ne).trans e) fr.1 fr.2.1 fr.2.2.2.1 fr.2.2.2.2.1 fr.2.2.2.2.2
    obtain ⟨_, here, _, es2, ep2, dat, size, each⟩ := I.frzS hd
    obtain ⟨e1, e2⟩ := dict_ep hod dat
    subst e1 e2
    have there := List.getElem?_eq_getElem lt
    obtain ⟨en, at_j, key⟩ := each j _ there
    refine next_key_item st here dat size at_j fun h' st2 sb => ⟨en.key, rfl, ?_⟩
    have st3 := st2
    obtain ⟨oi, q1, q2, q3⟩ := st3
    exact go_of (s := { s with heap := h' }) q1 q2 q3 (by decide) ⟨.ref (xs[j]).2, H, turned h' sb, key, ⟨rfl, _, there, rfl⟩, st2, fun b m => (free b m).1⟩
  · intro X eP ew eK hcalm j pins s σ H E I free st ⟨hd, ge⟩
    subst eP ew eK
    have fr := free it List.mem_cons_self
    obtain ⟨_, here, _, es2, ep2, dat, size, _⟩ := I.frzS hd
    obtain ⟨e1, e2⟩ := dict_ep hod dat
    subst e1 e2
    refine next_key_end (I.ok.hd hcalm) st here dat size ge fun h' kept => ⟨rfl, ?_⟩
    exact I.turned (t' := s.toks) (fun b ob ne e => kept b ob ne e) fr.1 fr.2.1 fr.2.2.2.1 fr.2.2.2.2.1 fr.2.2.2.2.2
end
def iSKeys (w : World) (td : TE) : TI := fun σ H R => td σ H fun x H1 => ∃ d o xs, x = .ref d ∧ H1 d = some (.frz o (SD w d xs)) ∧ R (Itsd w d o xs) H1
theorem pi_skeys {X : Cx} {tg e : Expr} {td : TE} (he : PE X e td) : PI X tg e (iSKeys X.w td) := by
  refine ⟨fun pins s σ H R I h => ?_⟩
  refine thn (he.run pins s σ H _ I h) fun u s1 ⟨x, H1, I1, rx, d, o, xs, ex, hd, q⟩ => ?_
  subst ex
  obtain rfl : u = Value.ref d := rx
  obtain ⟨hs, hgd, hx, es, ep, hdt, hsz, ent⟩ := I1.frzS hd
  refine iter_keys hs hgd hx hdt (pi_one (tk := s1.toks) I1 _ (turn_sd _ hdt) ⟨_, Heap.get?_push_size _ rfl, rfl, ?_⟩ q)
  rw [hsz] <;> rfl
theorem walk_sd {w : World} {d : Addr} {o : Obj} {xs : List (SK × Addr)} : Walk (Itsd w d o xs) xs.length (fun H => H d = some (.frz o (SD w d xs)))
    (fun i H x H' => H' = H ∧ ∃ p, xs[i]? = some p ∧ x = .ref p.2) :=
  ⟨fun _ _ lt q => ⟨q, lt⟩, fun _ q => ⟨q, Nat.le_refl _⟩, fun _ _ _ _ _ _ y => y⟩
end L2
namespace L2
open PySem PySem.Spec PyProof.Rows
/-- as a test: if y in d; the World by its own letter -/
theorem pt_sin {X : Cx} {w : World} {k : Nat} {i o : Expr} {pos : Pos} {ty td : TE} (hr : Room k X.A) (hi : PE X i ty) (ho : PE X o td) (hb : behindInMarks .In o = false := by rfl) (hw : X.w = w := by rfl) : PT X (.Compare i [.In] [o] pos) (tB (tSIn w ty td)) := by
  subst hw
  exact pt_cmp (pc_sin hr.units hi ho) hb
theorem pe_sin {X : Cx} {w : World} {k : Nat} {i o : Expr} {pos : Pos} {ty td : TE} (hr : Room k X.A) (hi : PE X i ty) (ho : PE X o td) (hb : behindInMarks .In o = false := by rfl) (hw : X.w = w := by rfl) : PE X (.Compare i [.In] [o] pos) (tSIn w ty td) := by
  subst hw
  exact pe_cmp (pc_sin hr.units hi ho) hb
end L2
/-! zip of a list and a tuple, in a for over pairs -/
namespace L2
open PySem PySem.Spec PyProof.Rows
section
variable {K : PySem.W.Frag} {a b : Addr}
/-- turns of zip(list, tuple): each gives a new pair -/
def Itzm (K : PySem.W.Frag) (a b : Addr) : It where
  go i H := ∃ xs ys x y, (SqL K H a xs ∧ SqT K H b ys) ∧ (xs[i]? = some x ∧ ys[i]? = some y)
  yld i H v H' := ∃ T x y, (v = .ref T ∧ H T = none ∧ H' = upd H T (.tup [x, y])) ∧ (∀ xs, SqL K H a xs → xs[i]? = some x) ∧ (∀ ys, SqT K H b ys → ys[i]? = some y)
  stop i H := ∃ xs ys, (SqL K H a xs ∧ SqT K H b ys) ∧ xs.length = i ∧ ys.length = i
/-- what the iterator's five objects look like at turn i -/
def ZipMid (z TI TO i1 i2 a b : Addr) (i : Nat) (h : Heap) : Prop :=
  (IsZip h z TI TO .none ∧ IsPair h TI (.ref i1) (.ref i2)) ∧ (∃ x y, IsPair h TO x y) ∧ (h.IsListIter i1 a i ∧ h.IsTupleIter i2 b i)
theorem zip_sep {z TI TO i1 i2 : Addr} (D : ZipApart z TI TO i1 i2 a b) (d12 : a ≠ i2) (d21 : b ≠ i1) : ZipSep2 z TI TO i1 i2 [i1, a] [i2, b] where
  TIz := D.TIz
  TOz := D.TOz
  TITO := D.TITO
  TIi1 := D.TIi1
  mem1 := List.mem_cons_self
  zf1 := by simp [D.i1z.symm, D.l1z.symm]
  Tf1 := by simp [D.TOi1, D.l1TO.symm]
  TIi2 := D.TIi2
  mem2 := List.mem_cons_self
  zf2 := by simp [D.i2z.symm, D.l2z.symm]
  Tf2 := by simp [D.TOi2, D.l2TO.symm]
  sep1_2 := by simp [D.i12, d21.symm]
  sep2_1 := by simp [D.i12.symm, d12.symm]
theorem five {z TI TO i1 i2 c : Addr} (m : c ∈ [z, TI, TO, i1, i2]) : c = z ∨ c = TI ∨ c = TO ∨ c = i1 ∨ c = i2 := by simpa using m
theorem turn_zipm {P : Program} {w : World} {elts : List Expr} {kk : Nat} {tpos : Pos} {z TI TO i1 i2 : Addr} (D : ZipApart z TI TO i1 i2 a b) :
    Turn P w K (.Tuple elts kk tpos) (Itzm K a b) [z, TI, TO, i1, i2] z (ZipMid z TI TO i1 i2 a b) := by
  have S := zip_sep D D.l1i2 D.l2i1
  refine ⟨List.mem_cons_self, ?_, ?_, ?_, ?_, fun A i s Q E st q => wpAny_pyIter_zip st.1.1 q⟩
  · rintro i h ⟨⟨hz, hI⟩, ⟨x, y, hO⟩, ⟨o1, e1, _, d1⟩, ⟨o2, e2, _, d2⟩⟩ c m
    rcases five m with e | e | e | e | e <;> subst e
    · exact ⟨_, hz, fun _ q => nomatch q⟩
    · exact ⟨_, hI, fun _ q => nomatch q⟩
    · exact ⟨_, hO, fun _ q => nomatch q⟩
    · exact ⟨o1, e1, fun _ q => by rw [d1] at q; exact nomatch q⟩
    · exact ⟨o2, e2, fun _ q => by rw [d2] at q; exact nomatch q⟩
  · rintro i h h' ⟨⟨hz, hI⟩, ⟨x, y, hO⟩, h1, h2⟩ k
    exact ⟨⟨k _ (by simp) _ hz, k _ (by simp) _ hI⟩, ⟨x, y, k _ (by simp) _ hO⟩, h1.at fun o => k _ (by simp) o, h2.at fun o => k _ (by simp) o⟩
  · rintro X rfl rfl rfl hcalm i pins s σ H E I free ⟨⟨hz, hI⟩, ⟨x0, y0, hO⟩, h1, h2⟩ ⟨xs, ys, x, y, ⟨qx, qy⟩, ex, ey⟩
    obtain ⟨us, ru, pu, _⟩ := I.list qx
    obtain ⟨vs, rv, pv, _⟩ := I.tuple qy
    obtain ⟨u, hu, rx⟩ := ru.get ex
    obtain ⟨v, hv, ry⟩ := rv.get ey
    have hh : X.A.in1.handled = none := I.ok.hd hcalm
    have lu : i < us.toArray.size := by
      have := (List.getElem?_eq_some_iff.mp hu).1
      simpa using this
    have lv : i < vs.toArray.size := by
      have := (List.getElem?_eq_some_iff.mp hv).1
      simpa using this
    refine wpAny_pyNext_zipD2_item S (Draws.list hh i1 a D.l1i1 us.toArray) (Draws.tuple hh i2 b D.l2i2 vs.toArray) hz hI hO ⟨h1, pu.isList⟩ ⟨h2, pv⟩ lu lv ?_
    intro u' v' h' tk eu ev z' O' it1 it2 hT _ kept
    have q1 : u' = u := Option.some.inj (eu.symm.trans (by simpa using hu))
    have q2 : v' = v := Option.some.inj (ev.symm.trans (by simpa using hv))
    subst q1 q2
    refine ⟨_, rfl, wpAny_letOwnedTupleGo_zip (s := { s with heap := h', toks := tk }) z' fun h2' z2 sb => ?_⟩
    have zlt := Heap.lt_size hz
    have far : ∀ c o, c ∉ [z, TI, TO, i1, i2] → s.heap.get? c = some o → h2'.get? c = some o := fun c o m e => by
      simp only [List.mem_cons, List.not_mem_nil, or_false, not_or] at m
      exact (sb.2 c m.1).trans (kept c o m.1 m.2.2.1 m.2.2.2.1 m.2.2.2.2 e)
    have hT2 := (sb.2 _ (Nat.ne_of_gt zlt)).trans hT
    have new : ObjOk X.prog X.w (upd H s.heap.objs.size (.tup [x, y])) h2' s.heap.objs.size (.tup [x, y]) :=
      ⟨(by decide : (2 : Nat) ≤ sizeLine), [u', v'], .cons rx (.cons ry .nil), _, hT2, rfl, _, rfl⟩
    have I2 := I.turnedNew (t' := tk) (ch := [z, TI, TO, i1, i2]) far free (Nat.le_refl _) new
    have noT : H s.heap.objs.size = none := I.hok.fresh (Nat.le_refl _)
    refine ⟨.ref s.heap.objs.size, _, I2, rfl, ⟨_, x, y, ⟨rfl, noT, rfl⟩, fun l hl => ?_, fun l hl => ?_⟩, ⟨⟨z2, ?_⟩, ⟨u', v', ?_⟩, ?_, ?_⟩, fun c m => ?_⟩
    · rw [I.list_inj hl qx]
      exact ex
    · rw [I.tuple_inj hl qy]
      exact ey
    · exact (sb.2 _ D.TIz).trans (kept _ _ D.TIz D.TITO D.TIi1 D.TIi2 hI)
    · exact (sb.2 _ D.TOz).trans O'
    · exact it1.1.at fun o e => (sb.2 _ D.i1z).trans e
    · exact it2.1.at fun o e => (sb.2 _ D.i2z).trans e
    · have old : ∃ o, s.heap.get? c = some o := by
        obtain ⟨o1, e1, _⟩ := h1
        obtain ⟨o2, e2, _⟩ := h2
        rcases five m with e | e | e | e | e <;> subst e <;> exact ⟨_, by assumption⟩
      obtain ⟨o, eo⟩ := old
      rw [upd_ne (Nat.ne_of_lt (Heap.lt_size eo))]
      exact (free c m).1
  · rintro X rfl rfl rfl hcalm i pins s σ H E I free ⟨⟨hz, hI⟩, ⟨x0, y0, hO⟩, h1, h2⟩ ⟨xs, ys, ⟨qx, qy⟩, lx, ly⟩
    obtain ⟨us, ru, pu, _⟩ := I.list qx
    obtain ⟨vs, rv, pv, _⟩ := I.tuple qy
    have hh : X.A.in1.handled = none := I.ok.hd hcalm
    have eu : us.toArray.size = i := by rw [List.size_toArray, ← ru.length, lx]
    have ev : vs.toArray.size = i := by rw [List.size_toArray, ← rv.length, ly]
    refine wpAny_pyNext_zipD2_end S (Draws.list hh i1 a D.l1i1 us.toArray) (Draws.tuple hh i2 b D.l2i2 vs.toArray) hz hI hO ⟨h1, pu.isList⟩ ⟨h2, pv⟩ (Nat.le_of_eq eu.symm) (Nat.le_of_eq ev.symm) (.inl eu.symm) fun h' tk kept => ⟨rfl, ?_⟩
    refine I.turnedL (t' := tk) (ch := [z, TI, TO, i1, i2]) (fun c o m e => ?_) free
    simp only [List.mem_cons, List.not_mem_nil, or_false, not_or] at m
    exact kept c o m.1 m.2.2.1 m.2.2.2.1 m.2.2.2.2 e
end
def iZipm (K : PySem.W.Frag) (ta : TA) : TI := fun σ H R => ta σ H fun vs H1 => ∃ a b xs ys, vs = [.ref a, .ref b] ∧ (SqL K H1 a xs ∧ SqT K H1 b ys) ∧ R (Itzm K a b) H1
theorem pi_zipm {X : Cx} {e e2 : Expr} {ta : TA} {p pos tpos : Pos} {elts : List Expr} {kk : Nat} (hg : Gl X "zip") (hm : X.mg "zip" = none) (ha : PA X [e, e2] ta)
    (hs : starEach [e, e2] X.env = (false, eval e X.env) :: starEach [e2] X.env := by rfl)
    (hpl : (backTo pos (starEach [e2] X.env)).any (·.1) = false := by rfl) :
    PI X (.Tuple elts kk tpos) (.Call (.Name "zip" p) [e, e2] [] pos) (iZipm X.K ta) where
  run pins s σ H R I h := by
    refine Call_ (ld_blt I hg hm PyProof.Rows.boot_zip (PyProof.Rows.callWith_type1 ?_ hs hpl))
    refine thn (ha.run pos pins s σ H _ I h) ?_
    rintro us s1 ⟨vs, H1, I1, r1, a, b, xs, ys, rfl, ⟨qx, qy⟩, q⟩
    obtain ⟨u, v, rfl, ru, rv⟩ := vals2 r1
    obtain rfl : u = Value.ref a := ru
    obtain rfl : v = Value.ref b := rv
    obtain ⟨us, _, pu, _⟩ := I1.list qx
    obtain ⟨vs, _, pv, _⟩ := I1.tuple qy
    have la : a < s1.heap.objs.size := pu.lt
    have lb : b < s1.heap.objs.size := by
      obtain ⟨o, eo, _⟩ := id pv
      exact Heap.lt_size eo
    refine zip_begins2 (begins_list a us.toArray) (begins_tuple b vs.toArray) pu.isList pv fun h' hz hI hO e1 e2 _ kept => wpAny_pyIter_zip hz ?_
    refine ⟨_, _, _, _, H1, rfl, I1.kept (t' := s1.toks) kept, turn_zipm (PySem.W.ktu_apart s1.heap.objs.size a b la lb), ⟨⟨hz, hI⟩, ⟨_, _, hO⟩, ⟨_, e1, rfl, rfl⟩, ⟨_, e2, rfl, rfl⟩⟩, fun c m => ?_, q⟩
    have le : s1.heap.objs.size ≤ c := by
      rcases five m with e | e | e | e | e <;> rw [e]
      · exact Nat.le_add_right _ _
      · exact Nat.le_add_right _ _
      · exact Nat.le_add_right _ _
      · exact Nat.le_refl _
      · exact Nat.le_add_right _ _
    exact I1.fpOk le (I1.hok.fresh le)
/-- as a walk: n turns over n channels and n ages -/
theorem walk_zipm {K : PySem.W.Frag} {a b : Addr} {xs ys : List V} (hn : ys.length = xs.length) :
    Walk (Itzm K a b) xs.length (fun H => SqL K H a xs ∧ SqT K H b ys) (YPair (fun i => xs[i]?) (fun i => ys[i]?)) where
  goes i H lt q := ⟨xs, ys, xs[i], ys[i]'(by omega), q, List.getElem?_eq_getElem lt, List.getElem?_eq_getElem (by omega)⟩
  stops H q := ⟨xs, ys, q, rfl, hn⟩
  yields := by
    rintro i H v H' lt q ⟨T, x, y, ⟨e1, e2, e3⟩, fx, fy⟩
    exact ⟨T, x, y, e1, e2, e3, fx _ q.1, fy _ q.2⟩
end L2
/-! Rules of our own: list(reversed(a list)); a dict of the module by whole numbers; a call of what an expression gives. -/
namespace L2
open PySem PySem.Spec PyProof.Rows RT
section
variable {prog : Program} {w : World} {s : Shared} {A : Around} {E : Value → Shared → Prop}
/-- the new list nl takes all that the iterator gives -/
theorem extend_lri {R : Result → Shared → Prop} {jt l : Addr} {xs : Array Value} (hh : A.handled = none) (nl : Addr) (res : Value) (c₀ : Nat)
    (hit : s.heap.IsRevIter jt l ((xs.size : Int) - 1)) (hl : s.heap.IsList l xs) (hne : l ≠ jt) (dSI : nl ≠ jt) (dSL : nl ≠ l)
    (hN : s.heap.get? nl = some { cls := .type "list", data := .seq #[] c₀ })
    (hR : ∀ h' tk ys c', (∀ b o, b ≠ nl → b ≠ jt → s.heap.get? b = some o → h'.get? b = some o) →
      h'.get? nl = some { cls := .type "list", dict := none, data := .seq ys c', slots := #[] } →
      ItemsOf (fun i v => xs[xs.size - 1 - i]? = some v) ys xs.size → R (.ok (.ret res)) { s with heap := h', toks := tk }) (hn : xs.size ≤ sizeLine) :
    wpAny (model prog w) A.in1 (Builtin.List.listExtendWith (.ref nl) (.ref jt) res)
      (fun fin s' => match fin with
        | .done f => R (.ok f) s'
        | .again c' => c'.quiet = true ∧ codeAny (model prog w) A c' R s') (fun e s' => R (.error e) s') s := by
  have W := (Walks.listRev (prog := prog) (w := w) (A := A.in1) hh jt l hne xs).toS
  have fpS : nl ∉ [jt, l] := by simp only [List.mem_cons, List.not_mem_nil, or_false, not_or] <;> exact ⟨dSI, dSL⟩
  have hT : s.TypeIs (.ref jt) "list_reverseiterator" := hit.typeIs
  have h1 : Builtin.List.listSameRef (.ref nl) (.ref jt) = false := by simp [Builtin.List.listSameRef, dSI]
  unfold Builtin.List.listExtendWith
  refine wpAny_bind (wpAny_typeOf hT ?_)
  rw [if_neg (by rw [h1]; decide)]
  refine wpAny_bind (wpAny_pyIter_revIter hit ?_)
  refine wpAny_bind (wpAny_holding ?_)
  unfold Builtin.List.listLengthHint
  refine wpAny_bind (wpAny_specialOf hT nolen_lri ?_)
  show wpAny _ A.in1 (specialOf (Value.ref jt) (Str.ofString "__length_hint__") >>= _) _ _ s
  refine wpAny_bind (wpAny_specialOf hT hint_lri ?_)
  generalize hnm : ("list_reverseiterator.__length_hint__" : String) = nm
  wp_delta
  rw [show splitId nm = some ("list_reverseiterator", "__length_hint__") from by subst hnm <;> decide +kernel]
  subst hnm
  refine wpAny_bind (wpAny_isInstance (b := true) hT (by rw [isSubtype_type] <;> kernel_rfl) ?_)
  refine wpAny_pure ?_
  rw [if_neg (by decide)]
  have ez : ((xs.size : Nat) : Int) - 1 - ((0 : Nat) : Int) = (xs.size : Int) - 1 := by omega
  refine wpAny_pure ⟨plainId_quiet F.plain_extend_loop _, codeAny_extend_loopS W hn _ fpS _ xs.size 0 _ _ _ rfl (Nat.zero_le _)
    ⟨Nat.zero_le _, by rw [ez] <;> exact hit, hl⟩ hN (ItemsOf.nil _) fun s' ys c' hm hN' hys => ?_⟩
  rw [Moved.eq_with hm]
  refine hR s'.heap s'.toks ys c' (fun b o hb hb2 e => hm.heap b o (fun hmem => ?_) e) hN' hys
  rcases List.mem_cons.mp hmem with e' | hmem
  · exact hb e'
  · exact hb2 (List.mem_singleton.mp hmem)
theorem init_lri {R : Result → Shared → Prop} {jt l : Addr} {xs : Array Value} (hh : A.handled = none) (nl : Addr)
    (hit : s.heap.IsRevIter jt l ((xs.size : Int) - 1)) (hl : s.heap.IsList l xs) (hne : l ≠ jt) (dSI : nl ≠ jt) (dSL : nl ≠ l)
    (hN : s.heap.get? nl = some { cls := .type "list", data := .seq #[] })
    (hR : ∀ h' tk ys c', (∀ b o, b ≠ nl → b ≠ jt → s.heap.get? b = some o → h'.get? b = some o) →
      h'.get? nl = some { cls := .type "list", dict := none, data := .seq ys c', slots := #[] } →
      ItemsOf (fun i v => xs[xs.size - 1 - i]? = some v) ys xs.size → R (.ok (.ret .none)) { s with heap := h', toks := tk }) (hn : xs.size ≤ sizeLine) :
    wpAny (model prog w) A.in1 (Builtin.«list.__init__» ⟨[.ref nl, .ref jt], []⟩)
      (fun fin s' => match fin with
        | .done f => R (.ok f) s'
        | .again c' => c'.quiet = true ∧ codeAny (model prog w) A c' R s') (fun e s' => R (.error e) s') s := by
  show wpAny _ A.in1 (Builtin.List.listItems (.ref nl) >>= fun old => Builtin.List.listUpdate (.ref nl) (fun _ => #[]) >>= fun _ => letGo old.toList.reverse >>= fun _ => Builtin.List.listExtendWith (.ref nl) (.ref jt) .none) _ _ s
  refine wpAny_bind ?_
  unfold Builtin.List.listItems
  refine wpAny_bind (wpAny_seqItems hN rfl (wpAny_pure ?_))
  show wpAny _ A.in1 (updateSeq nl (fun _ => #[]) >>= fun _ => letGo (#[] : Array Value).toList.reverse >>= fun _ => Builtin.List.listExtendWith (.ref nl) (.ref jt) .none) _ _ s
  refine wpAny_bind (wpAny_updateSeq hN rfl ?_)
  have hN2 := Heap.get?_update_self (Obj.mapSeq (fun _ => (#[] : Array Value))) hN rfl
  have rest : ∀ b o, b ≠ nl → s.heap.get? b = some o → (s.heap.update nl (Obj.mapSeq (fun _ => (#[] : Array Value)))).get? b = some o :=
    fun b o hb e => Eq.trans (Heap.get?_update_other _ _ (Ne.symm hb)) e
  refine wpAny_bind (wpAny_letGo ?_)
  obtain ⟨oi, hoi, ri⟩ := id hit
  obtain ⟨ol, hol, rl⟩ := id hl
  refine extend_lri (s := { s with heap := s.heap.update nl (Obj.mapSeq (fun _ => (#[] : Array Value))) }) hh nl .none _ ⟨oi, rest _ _ (Ne.symm dSI) hoi, ri⟩ ⟨ol, rest _ _ (Ne.symm dSL) hol, rl⟩ hne dSI dSL hN2
    (fun h' tk ys c' hk hN' hys => hR h' tk ys c' (fun b o hb hb2 e => hk b o hb hb2 (rest b o hb e)) hN' hys) hn
theorem call_list_lri {jt l : Addr} {xs : Array Value} {Q : Value → Shared → Prop} (hh : A.handled = none)
    (hit : s.heap.IsRevIter jt l ((xs.size : Int) - 1)) (hl : s.heap.IsList l xs) (hne : l ≠ jt) (hn : xs.size ≤ sizeLine)
    (hQ : ∀ h' tk ys c', (∀ b o, b ≠ jt → s.heap.get? b = some o → h'.get? b = some o) →
      h'.get? s.heap.objs.size = some { cls := .type "list", dict := none, data := .seq ys c', slots := #[] } →
      ItemsOf (fun i v => xs[xs.size - 1 - i]? = some v) ys xs.size → Q (.ref s.heap.objs.size) { s with heap := h', toks := tk }) :
    wpAny (model prog w) A (call (.type "list") [.ref jt]) Q E s := by
  obtain ⟨oi, hoi, ri⟩ := id hit
  obtain ⟨ol, hol, rl⟩ := id hl
  have dSI : s.heap.objs.size ≠ jt := Nat.ne_of_gt (Heap.lt_size hoi)
  have dSL : s.heap.objs.size ≠ l := Nat.ne_of_gt (Heap.lt_size hol)
  refine callType_codes (Q₁ := fun obj s₁ => obj = .ref s.heap.objs.size ∧ s₁ = { s with heap := s.heap.push { cls := .type "list", data := .seq #[] } }) F.called_list
    (F.typeCall_list_1 _) F.entry_list_init (code_list_new _ ⟨rfl, rfl⟩) fun obj s₁ h₁ => ?_
  obtain ⟨rfl, rfl⟩ := h₁
  have hN : (s.heap.push { cls := .type "list", data := .seq #[] }).get? s.heap.objs.size = some { cls := .type "list", data := .seq #[] } :=
    Heap.get?_push_size _ rfl
  refine ⟨⟨_, hN, rfl⟩, F.args_list_init_2 _ _, init_lri (s := { s with heap := s.heap.push { cls := .type "list", data := .seq #[] } }) (A := A.in1) hh _ ⟨oi, Heap.get?_push_of_some _ hoi, ri⟩
    ⟨ol, Heap.get?_push_of_some _ hol, rl⟩ hne dSI dSL hN (fun h' tk ys c' hk hN' hys => ?_) hn⟩
  exact ⟨rfl, hQ h' tk ys c' (fun b o hb e => hk b o (Nat.ne_of_lt (Heap.lt_size e)) hb (Heap.get?_push_of_some _ e)) hN' hys⟩
end
/-- list(reversed(x)), x a list: a new list -/
def tLRev (K : PySem.W.Frag) (te : TE) : TE := fun σ H Q => te σ H fun v H1 => ∃ (a : Addr) (xs : List V), v = .ref a ∧ SqL K H1 a xs ∧ ∀ q, H1 q = none → Q (.ref q) (upd H1 q (.lst xs.reverse))
section
variable {X : Cx}
theorem pe_listRev {e : Expr} {te : TE} {p p2 pos pos2 : Pos} (hc : X.calm = true) (hg : Gl X "list") (hm : X.mg "list" = none) (hg2 : Gl X "reversed") (hm2 : X.mg "reversed" = none)
    (he : PE X e te) (hs : starEach [e] X.env = (false, eval e X.env) :: starEach [] X.env := by rfl)
    (hs2 : starEach [.Call (.Name "reversed" p2) [e] [] pos2] X.env =
      (false, eval (.Call (.Name "reversed" p2) [e] [] pos2) X.env) :: starEach [] X.env := by rfl) :
    PE X (.Call (.Name "list" p) [.Call (.Name "reversed" p2) [e] [] pos2] [] pos) (tLRev X.K te) := by
  refine ⟨fun pins s σ H Q I h => ?_⟩
  refine Call_ (ld_blt I hg hm boot_list (PyProof.Rows.callWith_type1 (args_cons (Call_ (ld_blt I hg2 hm2 PyProof.Rows.boot_reversed
    (PyProof.Rows.callWith_type1 (args_cons (thn (he.run pins s σ H _ I h) fun u s1 ⟨v, H1, I1, r1, q1⟩ => args_nil ?_) hs) hs rfl))) hs2) hs2 rfl))
  obtain ⟨a, xs, ev, hq, q⟩ := q1
  subst ev
  obtain rfl : u = Value.ref a := r1
  obtain ⟨its, rv, p', hz⟩ := I1.list hq
  refine call_reversed_list p'.isList (args_nil ?_)
  have k0 : ∀ b o, s1.heap.get? b = some o → (s1.heap.push (revObj a ((its.toArray.size : Int) - 1))).get? b = some o := fun b o e =>
    Heap.get?_push_of_some _ e
  have I2 : Inv X pins σ H1 { s1 with heap := s1.heap.push (revObj a ((its.toArray.size : Int) - 1)) } :=
    I1.kept (t' := s1.toks) k0
  have hl := p'.isList
  obtain ⟨ol, hol, rol⟩ := id hl
  have hna : a ≠ s1.heap.objs.size :=
    Nat.ne_of_lt (Heap.lt_size hol)
  have hn : its.toArray.size ≤ sizeLine := by rw [List.size_toArray, ← rv.length] <;> exact hz
  refine call_list_lri (s := { s1 with heap := s1.heap.push (revObj a ((its.toArray.size : Int) - 1)) }) (I1.ok.hd hc) ⟨_, Heap.get?_push_size _ rfl, rfl, rfl⟩
    ⟨ol, Heap.get?_push_of_some _ hol, rol⟩ hna hn fun h' tk acc c' hk e hi => ?_
  have fr : H1 (s1.heap.push (revObj a ((its.toArray.size : Int) - 1))).objs.size = none := I2.hok.fresh (Nat.le_refl _)
  have hT : s1.heap.objs.size ≤ (s1.heap.push (revObj a ((its.toArray.size : Int) - 1))).objs.size := by
    show _ ≤ (s1.heap.objs.push _).size
    rw [Array.size_push]
    exact Nat.le_succ _
  refine ⟨.ref _, _, I1.turnedNew (t' := tk) (ch := [s1.heap.objs.size]) (ob := .lst xs.reverse) (fun b o hb e => hk b o (fun z => hb (by rw [z] <;> exact List.mem_cons_self)) (k0 b o e)) (fun b hb => ?_) hT ?_, rfl, q _ fr⟩
  · rw [List.mem_singleton.mp hb]
    refine I1.fpOk (Nat.le_refl _) ?_
    exact I1.hok.fresh (Nat.le_refl _)
  · refine ⟨by rw [List.length_reverse] <;> exact hz, acc.toList, c', vals_rev rv hi, ?_⟩
    rw [Array.toArray_toList]
    exact e
end
/-! ### a dict of the module by whole numbers -/
def IntKeys (es : Array DictEntry) : Prop := ∀ e ∈ es.toList, ∃ k t, e.key = .int k t ∧ e.hash = hashInt k
def rIxI (K : PySem.W.Frag) : R2 := fun x y H Q => ∃ p k f es n, x = .ref p ∧ y = .int k ∧ K.lookup p = some ⟨.type "dict", none, .dict es n, #[]⟩ ∧ IntKeys es ∧
  findBy Value.isInt es k = some (.ref f) ∧ Q (.ref f) H
section
variable {X : Cx}
theorem ix_idict : IxR X (rIxI X.K) := by
  intro value slice pins s σ H x y v u Q I rx ry h hs
  obtain ⟨p, k, f, es, n, rfl, rfl, hl, hk, e, q⟩ := h
  obtain rfl : v = Value.ref p := rx
  obtain ⟨t, rfl⟩ := ry
  have hm : s.heap.MapOf (intKind X.prog X.w) p (fun k => findBy Value.isInt es k) := ⟨_, es, n, I.kIn _ _ hl, ⟨rfl, rfl, rfl⟩, rfl, fun e he => by
    obtain ⟨x, t, e1, e2⟩ := hk e (Array.mem_toList_iff.mpr he)
    exact ⟨x, by rw [e1] <;> exact intKind_is X.prog X.w x t, e2⟩, fun _ => rfl⟩
  exact tail_any hm.typeIs slot_dict_getitem.lookup (wpAny_getItem_of (intKind_is X.prog X.w k t) hm e ⟨.ref f, H, I.tok _, rfl, q⟩) hs
end
/-- a call of what an expression gives: a def that keeps its promise -/
def tCallE (P : Program) (w : World) (K : PySem.W.Frag) (mg : Str → Option Value) (base : Heap) (k : Nat) (tf : TE) (t : TA) : TE :=
  fun σ H Q => tf σ H fun v H1 => ∃ f sp, v = .ref f ∧ Held P w K mg base k f sp ∧ t σ H1 fun vs H2 => sp vs H2 Q (fun _ _ _ => False)
section
variable {X : Cx} {k : Nat} {func e : Expr} {es : List Expr} {tf : TE} {t : TA} {pos : Pos}
theorem pe_callE (hf : PE X func tf) (hr : Room k X.A) (ha : PA X (e :: es) t)
    (hc : eval (.Call func (e :: es) [] pos) X.env = (do callWith pos (← eval func X.env) [] (backTo pos (starEach (e :: es) X.env)) (backToKw pos (keywordEach [] X.env))) := by rfl)
    (he : starEach (e :: es) X.env = (false, eval e X.env) :: starEach es X.env := by rfl)
    (hpl : (backTo pos (starEach es X.env)).any (·.1) = false := by rfl) :
    PE X (.Call func (e :: es) [] pos) (tCallE X.prog X.w X.K X.mg X.base k tf t) := by
  refine ⟨fun pins s σ H Q I h => ?_⟩
  refine Call_ (thn (hf.run pins s σ H _ I h) fun u s1 ⟨v, H1, I1, r1, q1⟩ => ?_) hc
  obtain ⟨f, sp, rfl, hd, ht⟩ := q1
  obtain ⟨fd, ps, F, hk, hb⟩ := hd.ex
  obtain rfl : u = Value.ref f := r1
  refine PySem.W.callWith_K (h₀ := X.base) I1.ok.mod.kin hk (thn (ha.run pos pins s1 σ H1 _ I1 ht) fun us s2 ⟨vs, H2, I2, r, q⟩ => ⟨I2.kIn, ?_⟩) he hpl
  refine run_fn (dvs := []) (ds := []) (E := fun _ _ _ => False) F hr hb .nil (fun _ _ _ _ _ _ _ z => z.elim) I2 r ?_
  rw [List.append_nil]
  exact q
end
end L2
/-! The program's functions as plain functions over numbers and lists. -/
namespace OL
/-- a channel: its ends and its maximum age -/
structure Ch where
  a : Nat
  b : Nat
  m : Nat
  deriving DecidableEq, Inhabited
/-- a place and the ages -/
abbrev Sta := Nat × List Nat
def atEnd (c : Ch) (p : Nat) : Bool := decide (p = c.a) || decide (p = c.b)
def availUp : List Ch → Nat → Nat → List Nat
  | [], _, _ => []
  | c :: r, p, i => if atEnd c p = true then (i + 1) :: availUp r p (i + 1) else availUp r p (i + 1)
def avail (cs : List Ch) (p : Nat) : List Nat := 0 :: availUp cs p 0
def other (c : Ch) (p : Nat) : Nat := if p = c.a then c.b else c.a
def after (cs : List Ch) (s : Sta) (m : Nat) : Sta :=
  if m = 0 then (s.1, s.2.map (· + 1)) else (other (cs.getD (m - 1) default) s.1, (s.2.map (· + 1)).set (m - 1) 0)
def opens : List Ch → List Nat → Bool
  | c :: cs, x :: xs => if c.m < x then false else opens cs xs
  | _, _ => true
def legal (cs : List Ch) (s : Sta) : List Nat := (avail cs s.1).filter fun m => opens cs (after cs s m).2
def into (cs : List Ch) (s : Sta) (S : List Sta) : List Nat := (legal cs s).filter fun m => decide (after cs s m ∈ S)
def canStay (cs : List Ch) (S : List Sta) (s : Sta) : Bool := !(into cs s S).isEmpty
def stay (cs : List Ch) (S : List Sta) : List Sta := S.filter (canStay cs S)
def fixS (cs : List Ch) : Nat → List Sta → List Sta
  | 0, S => S
  | k + 1, S => if (stay cs S).length = S.length then stay cs S else fixS cs k (stay cs S)
def longer (c : Ch) (l : List Nat) : List (List Nat) := (List.range (c.m + 1)).map fun x => l ++ [x]
def openAges (cs : List Ch) : List (List Nat) := cs.foldl (fun found c => found.flatMap (longer c)) [[]]
def openStates (n : Nat) (cs : List Ch) : List Sta := (openAges cs).flatMap fun l => (List.range n).map fun p => (p, l)
def safeSt (n : Nat) (cs : List Ch) : List Sta := fixS cs ((openStates n cs).length + 1) (openStates n cs)
def safeMoves (n : Nat) (cs : List Ch) (s : Sta) : List Nat := into cs s (safeSt n cs)

/-! ### what is clear of them -/
theorem availUp_le : ∀ (cs : List Ch) (p i m : Nat), m ∈ availUp cs p i → 1 ≤ m ∧ m ≤ i + cs.length
  | [], _, _, _, h => nomatch h
  | c :: r, p, i, m, h => by
    unfold availUp at h
    have ih := availUp_le r p (i + 1) m
    rw [List.length_cons]
    split at h
    · rcases List.mem_cons.mp h with e | h
      · omega
      · have := ih h
        omega
    · have := ih h
      omega
theorem avail_le {cs : List Ch} {p m : Nat} (h : m ∈ avail cs p) : m ≤ cs.length := by
  rcases List.mem_cons.mp h with e | h
  · omega
  · have := availUp_le cs p 0 m h
    omega
theorem availUp_len : ∀ (cs : List Ch) (p i : Nat), (availUp cs p i).length ≤ cs.length
  | [], _, _ => Nat.le_refl _
  | c :: r, p, i => by
    unfold availUp
    have ih := availUp_len r p (i + 1)
    split
    · rw [List.length_cons, List.length_cons]
      omega
    · rw [List.length_cons]
      omega
theorem avail_len (cs : List Ch) (p : Nat) : (avail cs p).length ≤ cs.length + 1 := by
  unfold avail
  rw [List.length_cons]
  have := availUp_len cs p 0
  omega
theorem availUp_append : ∀ (cs ds : List Ch) (p i : Nat), availUp (cs ++ ds) p i = availUp cs p i ++ availUp ds p (i + cs.length)
  | [], ds, p, i => by simp [availUp]
  | c :: r, ds, p, i => by
    have ih := availUp_append r ds p (i + 1)
    have e : i + 1 + r.length = i + (r.length + 1) := by omega
    rw [e] at ih
    rw [List.cons_append, List.length_cons]
    show (if atEnd c p = true then (i + 1) :: availUp (r ++ ds) p (i + 1) else availUp (r ++ ds) p (i + 1)) = _
    rw [ih]
    show _ = (if atEnd c p = true then (i + 1) :: availUp r p (i + 1) else availUp r p (i + 1)) ++ _
    split <;> rfl
/-- one channel more -/
theorem avail_snoc (cs : List Ch) (c : Ch) (p : Nat) : avail (cs ++ [c]) p = avail cs p ++ (if atEnd c p = true then [cs.length + 1] else []) := by
  unfold avail
  rw [availUp_append, List.cons_append]
  show 0 :: (_ ++ availUp [c] p (0 + cs.length)) = _
  rw [Nat.zero_add]
  rfl
theorem after_len (cs : List Ch) (s : Sta) (m : Nat) : (after cs s m).2.length = s.2.length := by
  unfold after
  split
  · exact List.length_map _
  · rw [List.length_set]
    exact List.length_map _
theorem legal_le {cs : List Ch} {s : Sta} {m : Nat} (h : m ∈ legal cs s) : m ≤ cs.length := avail_le (List.mem_filter.mp h).1
theorem legal_len (cs : List Ch) (s : Sta) : (legal cs s).length ≤ cs.length + 1 := Nat.le_trans (List.length_filter_le _ _) (avail_len cs s.1)
end OL
namespace OL
/-! ### the open states -/
theorem openAges_snoc (cs : List Ch) (c : Ch) : openAges (cs ++ [c]) = (openAges cs).flatMap (longer c) := by
  unfold openAges
  rw [List.foldl_append]
  rfl
theorem longer_len (c : Ch) (l : List Nat) : (longer c l).length = c.m + 1 := by
  unfold longer
  rw [List.length_map, List.length_range]
theorem flat_len (c : Ch) : ∀ f : List (List Nat), (f.flatMap (longer c)).length = f.length * (c.m + 1)
  | [] => by simp
  | x :: f => by
    rw [List.flatMap_cons, List.length_append, longer_len, flat_len c f, List.length_cons, Nat.succ_mul, Nat.add_comm]
theorem mem_longer {c : Ch} {l x : List Nat} : x ∈ longer c l ↔ ∃ n, n ≤ c.m ∧ x = l ++ [n] := by
  unfold longer
  rw [List.mem_map]
  constructor
  · rintro ⟨n, h, e⟩
    exact ⟨n, Nat.lt_succ_iff.mp (List.mem_range.mp h), e.symm⟩
  · rintro ⟨n, h, e⟩
    exact ⟨n, List.mem_range.mpr (Nat.lt_succ_iff.mpr h), e.symm⟩
/-- induction over a list from its end -/
theorem snoc_ind {α : Type} {p : List α → Prop} (h0 : p []) (h1 : ∀ l x, p l → p (l ++ [x])) : ∀ l, p l := by
  have : ∀ r : List α, p r.reverse := by
    intro r
    induction r with
    | nil => exact h0
    | cons x r ih =>
      rw [List.reverse_cons]
      exact h1 _ x ih
  intro l
  have := this l.reverse
  rwa [List.reverse_reverse] at this
theorem openAges_len (cs : List Ch) : (∀ c ∈ cs, c.m ≤ 3) → (openAges cs).length ≤ 4 ^ cs.length := by
  refine snoc_ind (p := fun cs => (∀ c ∈ cs, c.m ≤ 3) → (openAges cs).length ≤ 4 ^ cs.length) ?_ ?_ cs
  · intro _
    exact Nat.le_refl 1
  · intro l c ih h
    have h1 := ih fun d hd => h d (List.mem_append_left _ hd)
    have h2 : c.m ≤ 3 := h c (List.mem_append_right _ List.mem_cons_self)
    rw [openAges_snoc, flat_len, List.length_append, List.length_singleton, Nat.pow_succ]
    exact Nat.mul_le_mul h1 (by omega)
theorem openAges_all (cs : List Ch) : ∀ l ∈ openAges cs, l.length = cs.length := by
  refine snoc_ind (p := fun cs => ∀ l ∈ openAges cs, l.length = cs.length) ?_ ?_ cs
  · intro l h
    rw [List.mem_singleton.mp h]
    rfl
  · intro cs c ih l h
    rw [openAges_snoc] at h
    obtain ⟨x, hx, hl⟩ := List.mem_flatMap.mp h
    obtain ⟨n, _, rfl⟩ := mem_longer.mp hl
    rw [List.length_append, List.length_append, ih x hx]
    rfl
theorem snoc_inj {a b : List Nat} {x y : Nat} (h : a ++ [x] = b ++ [y]) : a = b ∧ x = y := by
  have := List.append_inj' h rfl
  exact ⟨this.1, by simpa using this.2⟩
theorem nodup_flat {α β : Type} {f : α → List β} : ∀ {l : List α}, l.Nodup → (∀ a ∈ l, (f a).Nodup) → (∀ a b x, a ∈ l → b ∈ l → x ∈ f a → x ∈ f b → a = b) → (l.flatMap f).Nodup
  | [], _, _, _ => List.nodup_nil
  | a :: l, hn, h1, h2 => by
    obtain ⟨ha, hl⟩ := List.nodup_cons.mp hn
    rw [List.flatMap_cons]
    refine List.nodup_append.mpr ⟨h1 a List.mem_cons_self, nodup_flat hl (fun b hb => h1 b (List.mem_cons_of_mem _ hb)) (fun b c x hb hc => h2 b c x (List.mem_cons_of_mem _ hb) (List.mem_cons_of_mem _ hc)), ?_⟩
    rintro x hx y hy rfl
    obtain ⟨b, hb, hxb⟩ := List.mem_flatMap.mp hy
    exact ha (h2 a b x List.mem_cons_self (List.mem_cons_of_mem _ hb) hx hxb ▸ hb)
theorem nodup_map_inj {α β : Type} {f : α → β} (inj : ∀ a b, f a = f b → a = b) : ∀ {l : List α}, l.Nodup → (l.map f).Nodup
  | [], _ => List.nodup_nil
  | a :: l, h => by
    obtain ⟨h1, h2⟩ := List.nodup_cons.mp h
    refine List.nodup_cons.mpr ⟨fun m => ?_, nodup_map_inj inj h2⟩
    obtain ⟨b, hb, e⟩ := List.mem_map.mp m
    exact h1 (inj _ _ e ▸ hb)
theorem longer_nodup (c : Ch) (l : List Nat) : (longer c l).Nodup := nodup_map_inj (fun _ _ h => (snoc_inj h).2) List.nodup_range
theorem openAges_nodup (cs : List Ch) : (openAges cs).Nodup := by
  refine snoc_ind (p := fun cs => (openAges cs).Nodup) ?_ ?_ cs
  · show ([[]] : List (List Nat)).Nodup
    decide
  · intro cs c ih
    rw [openAges_snoc]
    refine nodup_flat ih (fun l _ => longer_nodup c l) ?_
    intro a b x _ _ ha hb
    obtain ⟨n, _, e⟩ := mem_longer.mp ha
    obtain ⟨m, _, e'⟩ := mem_longer.mp hb
    exact (snoc_inj (e.symm.trans e')).1
theorem openStates_nodup (n : Nat) (cs : List Ch) : (openStates n cs).Nodup := by
  refine nodup_flat (openAges_nodup cs) (fun l _ => nodup_map_inj (fun _ _ h => congrArg Prod.fst h) List.nodup_range) ?_
  intro a b x _ _ ha hb
  obtain ⟨p, _, e⟩ := List.mem_map.mp ha
  obtain ⟨q, _, e'⟩ := List.mem_map.mp hb
  have := e.trans e'.symm
  exact congrArg Prod.snd this
theorem openStates_all {n : Nat} {cs : List Ch} {s : Sta} (h : s ∈ openStates n cs) : s.2.length = cs.length ∧ s.1 < n := by
  obtain ⟨l, hl, hs⟩ := List.mem_flatMap.mp h
  obtain ⟨p, hp, rfl⟩ := List.mem_map.mp hs
  exact ⟨openAges_all cs l hl, List.mem_range.mp hp⟩
theorem openStates_len (n : Nat) (cs : List Ch) : (openStates n cs).length = (openAges cs).length * n := by
  unfold openStates
  induction openAges cs with
  | nil => simp
  | cons l r ih => rw [List.flatMap_cons, List.length_append, List.length_map, List.length_range, ih, List.length_cons, Nat.succ_mul, Nat.add_comm]
theorem pow_four {k : Nat} (h : k ≤ 3) : 4 ^ k ≤ 64 := Nat.pow_le_pow_right (by decide) h
theorem openStates_few {n : Nat} {cs : List Ch} (h : ∀ c ∈ cs, c.m ≤ 3) (h3 : cs.length ≤ 3) (hn : n ≤ 4) : (openStates n cs).length ≤ 256 := by
  rw [openStates_len]
  exact Nat.mul_le_mul (Nat.le_trans (openAges_len cs h) (pow_four h3)) hn
theorem stay_sub {cs : List Ch} {S : List Sta} {s : Sta} (h : s ∈ stay cs S) : s ∈ S := (List.mem_filter.mp h).1
theorem stay_len (cs : List Ch) (S : List Sta) : (stay cs S).length ≤ S.length := List.length_filter_le _ _
end OL
namespace OL
/-! ### the fixed point -/
theorem stay_lt {cs : List Ch} {S : List Sta} (h : ¬ (stay cs S).length = S.length) : (stay cs S).length < S.length := Nat.lt_of_le_of_ne (stay_len cs S) h
theorem fix_eq {cs : List Ch} {S : List Sta} {k : Nat} (h : (stay cs S).length = S.length) : fixS cs (k + 1) S = stay cs S := if_pos h
theorem fix_ne {cs : List Ch} {S : List Sta} {k : Nat} (h : ¬ (stay cs S).length = S.length) : fixS cs (k + 1) S = fixS cs k (stay cs S) := if_neg h
theorem fix_more (cs : List Ch) : ∀ (k : Nat) (S : List Sta), S.length < k → fixS cs (k + 1) S = fixS cs k S
  | 0, S, h => absurd h (Nat.not_lt_zero _)
  | k + 1, S, h => by
    by_cases e : (stay cs S).length = S.length
    · rw [fix_eq e, fix_eq e]
    · rw [fix_ne e, fix_ne e]
      have := stay_lt e
      exact fix_more cs k _ (by omega)
theorem fix_fuel (cs : List Ch) (S : List Sta) : ∀ (k : Nat), S.length < k → fixS cs k S = fixS cs (S.length + 1) S := by
  intro k h
  obtain ⟨j, rfl⟩ := Nat.exists_eq_add_of_lt h
  induction j with
  | zero => rfl
  | succ j ih =>
    have e : S.length + (j + 1) + 1 = (S.length + j + 1) + 1 := by omega
    rw [e, fix_more cs _ S (by omega)]
    exact ih (by omega)
theorem fix_sub (cs : List Ch) : ∀ (k : Nat) (S : List Sta) (s : Sta), s ∈ fixS cs k S → s ∈ S
  | 0, _, _, h => h
  | k + 1, S, s, h => by
    by_cases e : (stay cs S).length = S.length
    · rw [fix_eq e] at h
      exact stay_sub h
    · rw [fix_ne e] at h
      exact stay_sub (fix_sub cs k _ s h)
theorem stay_all {cs : List Ch} {S : List Sta} (h : (stay cs S).length = S.length) : stay cs S = S := by
  have : ∀ (p : Sta → Bool) (l : List Sta), (l.filter p).length = l.length → l.filter p = l := by
    intro p l
    induction l with
    | nil => intro _; rfl
    | cons x l ih =>
      intro e
      rw [List.filter_cons] at e ⊢
      split at e
      · rename_i hp
        rw [if_pos hp]
        rw [List.length_cons, List.length_cons] at e
        rw [ih (by omega)]
      · have := List.length_filter_le p l
        rw [List.length_cons] at e
        omega
  exact this _ _ h
end OL
/-! The program's text, its objects in the heap; the defs of moves. -/
namespace OL
open PySem PySem.Spec PyProof.Rows L2

/-! ### the text -/
def topS (i : Nat) : Stmt := PySem.Challenge.pw_openlanes_s01_answers.main.body.getD i (.Pass ⟨0, 0, 0, 0⟩)
abbrev sAvail : Stmt := topS 2
abbrev sAtEnd : Stmt := topS 3
abbrev sOther : Stmt := topS 4
abbrev sAfter : Stmt := topS 5
abbrev sOpen : Stmt := topS 6
abbrev sLegal : Stmt := topS 7
/-- what the top has written of the classes and the names -/
structure Txt (K : PySem.W.Frag) (mg : Str → Option Value) (CC CI CR : Addr) : Prop where
  cl : Cls K CC
  clI : Cls K CI
  clR : Cls K CR
  nA : NoAttr K CC "end_a"
  nB : NoAttr K CC "end_b"
  nM : NoAttr K CC "max_age"
  gWait : mg "WAIT" = some (.int 0 0) ∨ ∃ t, mg "WAIT" = some (.int 0 t)
  bEnum : mg "enumerate" = none
  bTuple : mg "tuple" = none
  bZip : mg "zip" = none
  bLen : mg "len" = none
  bRange : mg "range" = none
  bMin : mg "min" = none
  bList : mg "list" = none
theorem Txt.wait {K : PySem.W.Frag} {mg : Str → Option Value} {CC CI CR : Addr} (T : Txt K mg CC CI CR) : ∃ t, mg "WAIT" = some (.int 0 t) := T.gWait.elim (fun h => ⟨0, h⟩) id

/-! ### objects in the heap -/
def nints (l : List Nat) : List V := l.map fun n : Nat => V.int (n : Int)
def chF (c : Ch) : List (Str × V) := [("end_a", .int c.a), ("end_b", .int c.b), ("max_age", .int c.m)]
def ChAt (CC : Addr) (H : Hp) (a : Addr) (c : Ch) : Prop := ∃ dx, H a = some (.ins CC dx (chF c))
/-- a list of channels -/
def Chs (CC : Addr) (H : Hp) (l : Addr) (cs : List Ch) : Prop := ∃ as : List Addr, H l = some (.lst (as.map V.ref)) ∧ Paired (ChAt CC H) as cs
def ck (s : Sta) : SK := ((s.1 : Int), s.2.map fun n : Nat => (n : Int))
theorem ck_inj {s t : Sta} (h : ck s = ck t) : s = t := by
  obtain ⟨p, l⟩ := s
  obtain ⟨q, r⟩ := t
  have h1 : (p : Int) = q := congrArg Prod.fst h
  have h2 : (l.map fun n : Nat => (n : Int)) = r.map fun n : Nat => (n : Int) := congrArg Prod.snd h
  have h3 : l = r := by
    have inj : ∀ {a b : List Nat}, (a.map fun n : Nat => (n : Int)) = (b.map fun n : Nat => (n : Int)) → a = b := by
      intro a
      induction a with
      | nil => intro b e; cases b with
        | nil => rfl
        | cons y b => simp at e
      | cons x a ih => intro b e; cases b with
        | nil => simp at e
        | cons y b =>
          simp only [List.map_cons, List.cons.injEq, Int.natCast_inj] at e
          rw [e.1, ih e.2]
    exact inj h2
  rw [h3, Int.ofNat.inj h1]
/-- the state's tuple -/
def StAt (H : Hp) (a : Addr) (s : Sta) : Prop := KeyAt H a (ck s)
theorem nints_map (l : List Nat) : (l.map fun n : Nat => (n : Int)).map V.int = nints l := by
  unfold nints
  rw [List.map_map]
  rfl
theorem StAt.at {H : Hp} {a : Addr} {s : Sta} (h : StAt H a s) : ∃ b, H a = some (.tup [.int (s.1 : Int), .ref b]) ∧ H b = some (.tup (nints s.2)) := by
  obtain ⟨b, h1, h2⟩ := h
  refine ⟨b, h1, ?_⟩
  rw [← nints_map]
  exact h2
theorem StAt.mk {H : Hp} {a b : Addr} {s : Sta} (h1 : H a = some (.tup [.int (s.1 : Int), .ref b])) (h2 : H b = some (.tup (nints s.2))) : StAt H a s := by
  refine ⟨b, h1, ?_⟩
  rw [← nints_map] at h2
  exact h2
theorem ChAt.same {CC : Addr} {H H' : Hp} {a : Addr} {c : Ch} (e : Same H H') (h : ChAt CC H a c) : ChAt CC H' a c := let ⟨dx, h⟩ := h; ⟨dx, e _ _ h⟩
theorem Chs.same {CC : Addr} {H H' : Hp} {l : Addr} {cs : List Ch} (e : Same H H') (h : Chs CC H l cs) : Chs CC H' l cs :=
  let ⟨as, h1, h2⟩ := h
  ⟨as, e _ _ h1, Paired.mapP h2 fun _ _ q => q.same e⟩
theorem StAt.same {H H' : Hp} {a : Addr} {s : Sta} (e : Same H H') (h : StAt H a s) : StAt H' a s := KeyAt.same e h
theorem Chs.len {CC : Addr} {H : Hp} {l : Addr} {cs : List Ch} (h : Chs CC H l cs) : ∃ as : List Addr, H l = some (.lst (as.map V.ref)) ∧ as.length = cs.length ∧ ∀ (i : Nat) (c : Ch), cs[i]? = some c → ∃ a, as[i]? = some a ∧ ChAt CC H a c := by
  obtain ⟨as, h1, h2⟩ := h
  refine ⟨as, h1, Paired.length h2, ?_⟩
  clear h1
  induction h2 with
  | nil => intro i c e; simp at e
  | @cons a c as cs r t ih =>
    intro i c' e
    cases i with
    | zero =>
      have e' : c = c' := Option.some.inj e
      subst e'
      exact ⟨a, rfl, r⟩
    | succ j => exact ih j c' e
theorem same_upd {H : Hp} {p : Addr} {o : HO} (h : H p = none) : Same H (upd H p o) := fun b x e => (upd_ne (ne_of_none e h)).trans e
theorem lk_in {k : Str} {v : V} {r : List (Str × V)} : List.lookup k ((k, v) :: r) = some v := by
  rw [List.lookup_cons, beq_self_eq_true]
theorem lk_by {k g : Str} {v : V} {r : List (Str × V)} (h : (k == g) = false) : List.lookup k ((g, v) :: r) = List.lookup k r := by
  rw [List.lookup_cons, h]
theorem chF_a (c : Ch) : (chF c).lookup ("end_a" : Str) = some (.int c.a) := lk_in
theorem chF_b (c : Ch) : (chF c).lookup ("end_b" : Str) = some (.int c.b) := (lk_by (by decide +kernel)).trans lk_in
theorem chF_m (c : Ch) : (chF c).lookup ("max_age" : Str) = some (.int c.m) := (lk_by (by decide +kernel)).trans ((lk_by (by decide +kernel)).trans lk_in)
theorem nat_eq {i j : Nat} : decide (V.int (i : Int) = V.int (j : Int)) = decide (i = j) := by
  refine decide_eq_decide.mpr ⟨fun h => ?_, fun h => by rw [h]⟩
  exact Int.ofNat.inj (V.int.inj h)
theorem nints_get {l : List Nat} {i : Nat} {n : Nat} (h : l[i]? = some n) : (nints l)[i]? = some (.int (n : Int)) := by
  unfold nints
  rw [List.getElem?_map, h]
  rfl
theorem nints_len (l : List Nat) : (nints l).length = l.length := by
  unfold nints
  exact List.length_map _
theorem nints_append (a b : List Nat) : nints (a ++ b) = nints a ++ nints b := by
  unfold nints
  exact List.map_append
/-- what stands at i of a mapped list -/
theorem map_get {α β : Type} {f : α → β} {l : List α} {i : Nat} {y : β} (h : (l.map f)[i]? = some y) : ∃ x, l[i]? = some x ∧ y = f x := by
  rw [List.getElem?_map] at h
  cases e : l[i]? with
  | none =>
    rw [e] at h
    cases h
  | some x =>
    rw [e] at h
    exact ⟨x, rfl, (Option.some.inj h).symm⟩
theorem take_snoc {α : Type} {l : List α} {i : Nat} {x : α} (h : l[i]? = some x) : l.take (i + 1) = l.take i ++ [x] := by
  rw [List.take_add_one, h]
  rfl

/-- a test that is known by a Bool -/
theorem ifB {b : Bool} {A B : Prop} (h1 : b = true → A) (h2 : b = false → B) : if b = true then A else B := by
  cases b with
  | true => exact iteT (h1 rfl)
  | false => exact iteF (h2 rfl)
/-- a def of the top: its text, how it is called, its name -/
structure DefAt (K : PySem.W.Frag) (mg : Str → Option Value) (x : Str) (st : Stmt) (ps : List Str) (f : Addr) (fd : FuncData) : Prop where
  F : Fun K x x st f fd
  b : Binds K fd ps []
  g : mg x = some (.ref f)
/-- its call by its name -/
theorem pe_fn {X : Cx} {x : Str} {st : Stmt} {ps : List Str} {f : Addr} {fd : FuncData} {k : Nat} {sp : Sp} {p pos : Pos} {e : Expr} {es : List Expr} {t : TA} (D : DefAt X.K X.mg x st ps f fd) (G : FnOk X.prog X.w X.K X.mg X.base CX0 k f fd ps sp)
    (hr : Room k X.A) (hg : Gl X x) (ha : PA X (e :: es) t) (hdb : (x == ("__debug__" : Str)) = false := by decide)
    (he : starEach (e :: es) X.env = (false, eval e X.env) :: starEach es X.env := by rfl)
    (hpl : (backTo pos (starEach es X.env)).any (·.1) = false := by rfl) :
    PE X (.Call (.Name x p) (e :: es) [] pos) (tCall sp [] E0 t) :=
  pe_call G hr hg D.g D.F.kp D.b .nil pass0 ha hdb he hpl

section
variable {P : Program} {w : World} {K : PySem.W.Frag} {mg : Str → Option Value} {base : Heap} {CC CI CR : Addr}
/-! ### is_at_end, other_end -/
def spAtEnd (CC : Addr) : Sp := fun vs H Q _ => ∃ (a : Addr) (c : Ch) (p : Nat), vs = [.ref a, .int (p : Int)] ∧ ChAt CC H a c ∧ Q (.bl (atEnd c p)) H
theorem scAtEnd : FnScope ["channel", "place"] ["channel", "place"] (defScope sAtEnd) := ⟨rfl, rfl, rfl, by decide +kernel, rfl, by decide +kernel, by decide +kernel⟩
theorem ok_atEnd {f : Addr} {fd : FuncData} {k : Nat} (F : Fun K "is_at_end" "is_at_end" sAtEnd f fd) (T : Txt K mg CC CI CR) : FnOk P w K mg base CX0 (k + 1) f fd ["channel", "place"] (spAtEnd CC) := by
  refine F.ok scAtEnd (fun vs H Q E h => ?_) (fun cdv A outer s H vs Q E hr h => ?_)
  · obtain ⟨a, c, p, rfl, _⟩ := h
    rfl
  · obtain ⟨a, c, p, rfl, ⟨dx, hc⟩, q⟩ := h
    refine ⟨_, pss_one (ps_ret (pe_or (pe_cmpR op_eq (pv 1) (pe_fld (pv 0) rfl) (nomark _)) (pe_one (pe_cmpR op_eq (pv 1) (pe_fld (pv 0) rfl) (nomark _))))), ?_⟩
    refine ⟨_, rfl, _, rfl, a, CC, dx, _, _, rfl, hc, T.cl, T.nA, chF_a c, rfl, _, rfl, ?_⟩
    unfold atEnd at q
    rw [nat_eq]
    by_cases e : p = c.a
    · rw [decide_eq_true e] at q ⊢
      exact iteT q
    · rw [decide_eq_false e] at q ⊢
      refine iteF ⟨_, rfl, _, rfl, a, CC, dx, _, _, rfl, hc, T.cl, T.nB, chF_b c, rfl, ?_⟩
      rw [nat_eq]
      exact q
def spOther (CC : Addr) : Sp := fun vs H Q _ => ∃ (a : Addr) (c : Ch) (p : Nat), vs = [.ref a, .int (p : Int)] ∧ ChAt CC H a c ∧ Q (.int (other c p : Nat)) H
theorem scOther : FnScope ["channel", "place"] ["channel", "place"] (defScope sOther) := ⟨rfl, rfl, rfl, by decide +kernel, rfl, by decide +kernel, by decide +kernel⟩
theorem ok_other {f : Addr} {fd : FuncData} {k : Nat} (F : Fun K "other_end" "other_end" sOther f fd) (T : Txt K mg CC CI CR) : FnOk P w K mg base CX0 (k + 1) f fd ["channel", "place"] (spOther CC) := by
  refine F.ok scOther (fun vs H Q E h => ?_) (fun cdv A outer s H vs Q E hr h => ?_)
  · obtain ⟨a, c, p, rfl, _⟩ := h
    rfl
  · obtain ⟨a, c, p, rfl, ⟨dx, hc⟩, q⟩ := h
    refine ⟨_, pss_one (ps_ret (pe_ifExp (pt_cmpR op_eq (pv 1) (pe_fld (pv 0) rfl) (nomark _)) (pe_fld (pv 0) rfl) (pe_fld (pv 0) rfl))), ?_⟩
    refine ⟨_, rfl, _, rfl, a, CC, dx, _, _, rfl, hc, T.cl, T.nA, chF_a c, rfl, _, rfl, ?_⟩
    unfold other at q
    rw [nat_eq]
    by_cases e : p = c.a
    · rw [if_pos e] at q
      rw [decide_eq_true e]
      exact iteT ⟨_, rfl, a, CC, dx, _, _, rfl, hc, T.cl, T.nB, chF_b c, q⟩
    · rw [if_neg e] at q
      rw [decide_eq_false e]
      exact iteF ⟨_, rfl, a, CC, dx, _, _, rfl, hc, T.cl, T.nA, chF_a c, q⟩
end
end OL
namespace OL
open PySem PySem.Spec PyProof.Rows L2
section
variable {P : Program} {w : World} {K : PySem.W.Frag} {mg : Str → Option Value} {base : Heap} {CC CI CR : Addr}
/-! ### available_from -/
def spAvail (CC : Addr) : Sp := fun vs H Q _ => ∃ (l : Addr) (cs : List Ch) (p : Nat), vs = [.ref l, .int (p : Int)] ∧ Chs CC H l cs ∧ cs.length ≤ 3 ∧
  ∀ H' q, Same H H' → H q = none → H' q = some (.lst (nints (avail cs p))) → Q (.ref q) H'
theorem scAvail : FnScope ["channels", "place", "moves", "number", "channel"] ["channels", "place"] (defScope sAvail) := ⟨rfl, rfl, rfl, by decide +kernel, rfl, by decide +kernel, by decide +kernel⟩
theorem ok_avail {f fA : Addr} {fd fdA : FuncData} {k : Nat} (F : Fun K "available_from" "available_from" sAvail f fd) (T : Txt K mg CC CI CR) (D : DefAt K mg "is_at_end" sAtEnd ["channel", "place"] fA fdA) :
    FnOk P w K mg base CX0 (k + 2) f fd ["channels", "place"] (spAvail CC) := by
  have G : FnOk P w K mg base CX0 (k + 1) fA fdA ["channel", "place"] (spAtEnd CC) := ok_atEnd D.F T
  obtain ⟨tw, gw⟩ := T.wait
  refine F.ok scAvail (fun vs H Q E h => ?_) (fun cdv A outer s H vs Q E hr h => ?_)
  · obtain ⟨l, cs, p, rfl, _⟩ := h
    rfl
  · obtain ⟨l, cs, p, rfl, hC, hlen, q⟩ := h
    refine ⟨_, pss_cons (ps_set (i := 2) scAvail.nd rfl (.inl rfl) (pe_lst (pa_cons (pe_glob (v := .int 0) rfl gw ⟨_, rfl⟩) pa_nil)))
      (pss_cons (ps_for PassesOwn.never rfl (pi_enum (by rfl) T.bEnum (pa_cons (pv 0) pa_nil))
          (pg_tup rfl (pgs_cons (pg_name (i := 3) scAvail.nd rfl (.inl rfl)) (pgs_cons (pg_name (i := 4) scAvail.nd rfl (.inl rfl)) pgs_nil)))
        (pss_one (ps_if (pt_val (pe_fn D G hr (by rfl) (pa_cons (pv 4) (pa_cons (pv 1) pa_nil))))
          (pss_one (ps_expr (pe_bm PySem.F.plainAttrs_list PySem.F.slot_list_append PySem.F.type_list_append mt_append (pv 2) (pa_cons (pe_op op_add (pv 3) pe_int) pa_nil)))) pss_nil)))
      (pss_one (ps_ret (pv 2)))), ?_⟩
    refine ⟨by decide, fun o no => ?_⟩
    have s0 := same_upd (o := .lst [V.int 0]) no
    obtain ⟨as, hl, lenA, each⟩ := hC.len
    have hS : SqL K H l (as.map V.ref) := .inl (.inl hl)
    refine ⟨_, rfl, l, as.map V.ref, rfl, s0.seq hS, ?_⟩
    refine for_it (walk_enum (xs := as.map V.ref)) (fun i σ H' => ∃ y3 y4, σ = [some (.ref l), some (.int p), some (.ref o), y3, y4] ∧ Same H H' ∧ H' o = some (.lst (nints (avail (cs.take i) p))))
      ⟨none, none, rfl, s0, upd_same⟩ (fun i σ H' _ ⟨_, _, _, sm, _⟩ => sm.seq hS) ?_ ?_
    · rintro i x σ H1 H2 hi ⟨y3, y4, rfl, sm, ho⟩ ⟨t, xx, yy, rfl, nt, rfl, e1, e2⟩
      obtain rfl := Option.some.inj e1
      obtain ⟨a, ha, rfl⟩ := map_get e2
      rw [List.length_map, lenA] at hi
      obtain ⟨a', ha', hch⟩ := each i cs[i] (List.getElem?_eq_getElem hi)
      rw [ha] at ha'
      obtain rfl := Option.some.inj ha'
      have st := same_upd (o := .tup [V.int (i : Nat), V.ref a]) nt
      refine ⟨t, _, rfl, .inl (.inl upd_same), rfl, _, _, rfl, _, _, rfl, rfl, ?_⟩
      refine ⟨_, rfl, _, rfl, a, cs[i], p, rfl, (hch.same sm).same st, _, rfl, ?_⟩
      have hot : upd H1 t (.tup [V.int (i : Nat), V.ref a]) o = some (.lst (nints (avail (cs.take i) p))) := st _ _ ho
      have grow := avail_snoc (cs.take i) cs[i] p
      rw [← take_snoc (List.getElem?_eq_getElem hi), List.length_take, Nat.min_eq_left (Nat.le_of_lt hi)] at grow
      refine ifB (fun c => ?_) (fun c => ?_)
      · rw [if_pos c] at grow
        refine ⟨_, rfl, .inl ⟨rfl, _, .inl (.inl hot)⟩, _, rfl, _, _, rfl, rfl, o, _, _, rfl, rfl, hot, ?_, ?_⟩
        · rw [nints_len]
          refine small1000 (Nat.le_trans (avail_len _ _) ?_)
          rw [List.length_take]
          omega
        · refine ⟨_, _, rfl, fun b z e => ?_, ?_⟩
          · rw [upd_ne (ne_of_none e no)]
            exact st _ _ (sm _ _ e)
          · rw [upd_same, grow, nints_append]
            rfl
      · rw [c, if_neg Bool.false_ne_true, List.append_nil] at grow
        exact ⟨_, _, rfl, sm.trans st, by rw [grow]; exact hot⟩
    · rintro σ H1 ⟨y3, y4, rfl, sm, ho⟩
      rw [List.length_map, lenA, List.take_length] at ho
      exact ⟨_, rfl, q H1 o sm no ho⟩
end
end OL
namespace OL
open PySem PySem.Spec PyProof.Rows L2
section
variable {P : Program} {w : World} {K : PySem.W.Frag} {mg : Str → Option Value} {base : Heap} {CC CI CR : Addr}
/-! ### state_after -/
def spAfter (CC : Addr) : Sp := fun vs H Q _ => ∃ (l t : Addr) (cs : List Ch) (s : Sta) (m : Nat), vs = [.ref l, .ref t, .int (m : Int)] ∧ (Chs CC H l cs ∧ StAt H t s) ∧ (s.2.length = cs.length ∧ m ≤ cs.length ∧ cs.length ≤ 3) ∧
  ∀ H' q, Same H H' → H q = none → StAt H' q (after cs s m) → Q (.ref q) H'
abbrev nAfter : List Str := ["channels", "state", "move", "place", "ages", "later_ages", "travelled", "age"]
theorem scAfter : FnScope nAfter ["channels", "state", "move"] (defScope sAfter) := ⟨rfl, rfl, rfl, by decide +kernel, rfl, by decide +kernel, by decide +kernel⟩
theorem nints_up (l : List Nat) {i n : Nat} (h : l[i]? = some n) : nints ((l.map (· + 1)).take (i + 1)) = nints ((l.map (· + 1)).take i) ++ [.int ((n : Int) + 1)] := by
  have e : (l.map (· + 1))[i]? = some (n + 1) := by rw [List.getElem?_map, h]; rfl
  rw [take_snoc e, nints_append]
  rfl
theorem nints_set (l : List Nat) (i n : Nat) : (nints l).set i (.int (n : Int)) = nints (l.set i n) := by
  unfold nints
  rw [List.map_set]
theorem ok_after {f fO : Addr} {fd fdO : FuncData} {k : Nat} (F : Fun K "state_after" "state_after" sAfter f fd) (T : Txt K mg CC CI CR) (D : DefAt K mg "other_end" sOther ["channel", "place"] fO fdO) :
    FnOk P w K mg base CX0 (k + 2) f fd ["channels", "state", "move"] (spAfter CC) := by
  have G : FnOk P w K mg base CX0 (k + 1) fO fdO ["channel", "place"] (spOther CC) := ok_other D.F T
  obtain ⟨tw, gw⟩ := T.wait
  refine F.ok scAfter (fun vs H Q E h => ?_) (fun cdv A outer s H vs Q E hr h => ?_)
  · obtain ⟨l, t, cs, s, m, rfl, _⟩ := h
    rfl
  · obtain ⟨l, t, cs, ⟨p, ag⟩, m, rfl, ⟨hC, hS⟩, ⟨hl, hm, h3⟩, q⟩ := h
    refine ⟨_, pss_cons (ps_asg (pv 1) (pg_tup rfl (pgs_cons (pg_name (i := 3) scAfter.nd rfl (.inl rfl)) (pgs_cons (pg_name (i := 4) scAfter.nd rfl (.inl rfl)) pgs_nil))))
      (pss_cons (ps_setLc (i := 5) (own := [("age", 7)]) (g := gName 7) (tt := tYes) rfl scAfter.nd rfl rfl (sw_true rfl rfl rfl (by decide +kernel)) (pi_tup (pv 4)) (blkOk_by (N := nAfter) (sc := defScope sAfter) (by decide +kernel))
          (fun _ _ _ _ _ => pg_name (i := 7) scAfter.nd rfl (Or.inl rfl)) (fun _ _ _ _ _ => pts_nil) (fun _ _ _ _ _ => pe_op op_add (pv 7) pe_int))
      (pss_cons (ps_if (pt_cmpR op_eq (pv 2) (pe_glob (v := .int 0) rfl gw ⟨_, rfl⟩) (nomark _))
          (pss_one (ps_ret (pe_tup (pa_cons (pv 3) (pa_cons (pe_callTy call_tuple_of (by rfl) T.bTuple boot_tuple (pa_cons (pv 5) pa_nil)) pa_nil))))) pss_nil)
      (pss_cons (ps_set (i := 6) scAfter.nd rfl (.inl rfl) (pe_op op_sub (pv 2) pe_int))
      (pss_cons (ps_asg pe_int (pg_sub (pv 5) (pv 6) set_list))
      (pss_one (ps_ret (pe_tup (pa_cons (pe_fn D G hr (by rfl) (pa_cons (pe_ix ix_list (pv 0) (pv 6) (fun _ _ => rfl)) (pa_cons (pv 3) pa_nil)))
        (pa_cons (pe_callTy call_tuple_of (by rfl) T.bTuple boot_tuple (pa_cons (pv 5) pa_nil)) pa_nil))))))))), ?_⟩
    obtain ⟨b, ht, hb⟩ := hS.at
    refine ⟨_, rfl, t, _, rfl, .inl (.inl ht), rfl, _, _, rfl, _, _, rfl, rfl, ?_⟩
    have hB : SqT K H b (nints ag) := .inl (.inl hb)
    refine ⟨_, rfl, b, rfl, ⟨_, hB⟩, fun o no => ?_⟩
    have hl : ag.length = cs.length := hl
    refine lc_tup (K := K) (xs := nints ag) (fun i H' => Same H H' ∧ H' o = some (.lst (nints ((ag.map (· + 1)).take i)))) ⟨same_upd no, upd_same⟩ (fun i H' _ h => by
      rcases hB with (h1 | ⟨_, h1⟩) | h1
      · exact .inl (.inl (h.1 _ _ h1))
      · exact .inl (.inr ⟨_, h.1 _ _ h1⟩)
      · exact .inr h1) ?_ ?_
    · rintro i x H1 hx ⟨sm, ho⟩
      obtain ⟨n, hn, rfl⟩ := map_get hx
      refine ⟨rfl, _, rfl, _, _, rfl, rfl, _, ho, ?_, fun b z e => ?_, ?_⟩
      · rw [nints_len, List.length_take, List.length_map]
        exact small1000 (by omega)
      · rw [upd_ne (ne_of_none e no)]
        exact sm _ _ e
      · rw [upd_same, nints_up _ hn]
    · rintro H1 ⟨sm, ho⟩
      rw [nints_len, List.take_of_length_le (Nat.le_of_eq (List.length_map _))] at ho
      refine ⟨_, rfl, rfl, _, rfl, ?_⟩
      unfold after at q
      refine ifB (fun c => ?_) (fun c => ?_)
      · have m0 : m = 0 := by
          have := V.int.inj (of_decide_eq_true c)
          omega
        rw [if_pos m0] at q
        refine ⟨_, rfl, _, rfl, o, _, rfl, .inl ⟨.inl (.inl ho), fun u nu => ⟨by show 2 ≤ sizeLine; decide, fun v nv => ?_⟩⟩⟩
        have s1 : Same H (upd H1 u (.tup (nints (ag.map (· + 1))))) := sm.trans (same_upd nu)
        have s2 := same_upd (o := .tup [V.int (p : Nat), V.ref u]) nv
        refine q _ v (s1.trans s2) (s1.free nv) (StAt.mk (b := u) ?_ ?_)
        · exact upd_same
        · exact s2 _ _ upd_same
      · have m0 : ¬ m = 0 := fun e => by
          rw [e] at c
          exact absurd c (by decide)
        rw [if_neg m0] at q
        obtain ⟨as, hcl, lenA, each⟩ := hC.len
        have hi : m - 1 < cs.length := by omega
        obtain ⟨a, ha, hch⟩ := each (m - 1) cs[m - 1] (List.getElem?_eq_getElem hi)
        have ei : (m : Int) - 1 = ((m - 1 : Nat) : Int) := by omega
        refine ⟨_, rfl, _, _, rfl, rfl, ?_⟩
        refine ⟨_, rfl, _, rfl, o, _, _, m - 1, rfl, rfl, ho, ?_, ?_⟩
        · rw [ei, nints_len, List.length_map, hl]
          unfold ixN
          rw [if_pos (by omega), if_pos (by omega)]
          rfl
        · have s1 : Same H (upd H1 o (.lst ((nints (ag.map (· + 1))).set (m - 1) (.int 0)))) := fun b z e => by
            rw [upd_ne (ne_of_none e no)]
            exact sm _ _ e
          have e0 : (nints (ag.map (· + 1))).set (m - 1) (.int 0) = nints ((ag.map (· + 1)).set (m - 1) 0) := nints_set _ _ 0
          rw [e0] at s1 ⊢
          refine ⟨_, rfl, _, rfl, l, _, _, _, rfl, rfl, .inl (.inl (s1 _ _ hcl)), at_of ei (by rw [List.getElem?_map, ha]; rfl), _, rfl, ?_⟩
          refine ⟨a, cs[m - 1], p, rfl, hch.same s1, ?_⟩
          refine ⟨_, rfl, o, _, rfl, .inl ⟨.inl (.inl upd_same), fun u nu => ⟨by show 2 ≤ sizeLine; decide, fun v nv => ?_⟩⟩⟩
          have s2 := s1.trans (same_upd (o := .tup (nints ((ag.map (· + 1)).set (m - 1) 0))) nu)
          have s3 := same_upd (o := .tup [V.int (other cs[m - 1] p : Nat), V.ref u]) nv
          have eg : cs.getD (m - 1) default = cs[m - 1] := by
            rw [List.getD_eq_getElem?_getD, List.getElem?_eq_getElem hi]
            rfl
          rw [eg] at q
          exact q _ v (s2.trans s3) (s2.free nv) (StAt.mk (b := u) upd_same (s3 _ _ upd_same))
end
end OL
namespace OL
open PySem PySem.Spec PyProof.Rows L2
section
variable {P : Program} {w : World} {K : PySem.W.Frag} {mg : Str → Option Value} {base : Heap} {CC CI CR : Addr}
theorem SqT.same {K : PySem.W.Frag} {H H' : Hp} {a : Addr} {xs : List V} (e : Same H H') (h : SqT K H a xs) : SqT K H' a xs := by
  rcases h with (h | ⟨o, h⟩) | h
  · exact .inl (.inl (e _ _ h))
  · exact .inl (.inr ⟨o, e _ _ h⟩)
  · exact .inr h
/-! ### all_open -/
def spOpen (CC : Addr) : Sp := fun vs H Q _ => ∃ (l t : Addr) (cs : List Ch) (s : Sta), vs = [.ref l, .ref t] ∧ (Chs CC H l cs ∧ StAt H t s) ∧ s.2.length = cs.length ∧
  ∀ H', Same H H' → Q (.bl (opens cs s.2)) H'
theorem scOpen : FnScope ["channels", "state", "channel", "age"] ["channels", "state"] (defScope sOpen) := ⟨rfl, rfl, rfl, by decide +kernel, rfl, by decide +kernel, by decide +kernel⟩
theorem opens_step {cs : List Ch} {xs : List Nat} {i : Nat} {c : Ch} {x : Nat} (hc : cs[i]? = some c) (hx : xs[i]? = some x) :
    opens (cs.drop i) (xs.drop i) = if c.m < x then false else opens (cs.drop (i + 1)) (xs.drop (i + 1)) := by
  obtain ⟨h1, e1⟩ := List.getElem?_eq_some_iff.mp hc
  obtain ⟨h2, e2⟩ := List.getElem?_eq_some_iff.mp hx
  rw [List.drop_eq_getElem_cons h1, List.drop_eq_getElem_cons h2, e1, e2]
  rfl
theorem ok_open {f : Addr} {fd : FuncData} {k : Nat} (F : Fun K "all_open" "all_open" sOpen f fd) (T : Txt K mg CC CI CR) :
    FnOk P w K mg base CX0 (k + 1) f fd ["channels", "state"] (spOpen CC) := by
  refine F.ok scOpen (fun vs H Q E h => ?_) (fun cdv A outer s H vs Q E hr h => ?_)
  · obtain ⟨l, t, cs, s, rfl, _⟩ := h
    rfl
  · obtain ⟨l, t, cs, ⟨p, ag⟩, rfl, ⟨hC, hS⟩, hl, q⟩ := h
    have hl : ag.length = cs.length := hl
    refine ⟨_, pss_cons (ps_for PassesOwn.never rfl (pi_zipm (by rfl) T.bZip (pa_cons (pv 0) (pa_cons (pe_ix ix_tup (pv 1) pe_int (fun _ _ => rfl)) pa_nil)))
        (pg_tup rfl (pgs_cons (pg_name (i := 2) scOpen.nd rfl (.inl rfl)) (pgs_cons (pg_name (i := 3) scOpen.nd rfl (.inl rfl)) pgs_nil)))
        (pss_one (ps_if (pt_cmpR op_gt (pv 3) (pe_fld (pv 2) rfl) (nomark _)) (pss_one (ps_ret pe_bl)) pss_nil)))
      (pss_one (ps_ret pe_bl)), ?_⟩
    obtain ⟨b, ht, hb⟩ := hS.at
    obtain ⟨as, hcl, lenA, each⟩ := hC.len
    have hL : SqL K H l (as.map V.ref) := .inl (.inl hcl)
    have hB : SqT K H b (nints ag) := .inl (.inl hb)
    refine ⟨_, rfl, _, rfl, t, _, _, _, rfl, rfl, .inl (.inl ht), atI_nat (j := 1) rfl, l, b, _, nints ag, rfl, ⟨hL, hB⟩, ?_⟩
    have en : (nints ag).length = (as.map V.ref).length := by rw [nints_len, List.length_map, lenA, hl]
    refine for_it (walk_zipm en) (fun i σ H' => ∃ y2 y3, σ = [some (.ref l), some (.ref t), y2, y3] ∧ Same H H' ∧ opens cs ag = opens (cs.drop i) (ag.drop i))
      ⟨none, none, rfl, Same.refl H, rfl⟩ (fun i σ H' _ ⟨_, _, _, sm, _⟩ => ⟨sm.seq hL, SqT.same sm hB⟩) ?_ ?_
    · rintro i x σ H1 H2 hi ⟨y2, y3, rfl, sm, eq⟩ ⟨u, xx, yy, rfl, nt, rfl, e1, e2⟩
      obtain ⟨a, ha, rfl⟩ := map_get e1
      obtain ⟨n, hn, rfl⟩ := map_get e2
      rw [List.length_map, lenA] at hi
      obtain ⟨a', ha', hch⟩ := each i cs[i] (List.getElem?_eq_getElem hi)
      rw [ha] at ha'
      obtain rfl := Option.some.inj ha'
      have st := same_upd (o := .tup [V.ref a, V.int (n : Nat)]) nt
      obtain ⟨dx, hdx⟩ := (hch.same sm).same st
      refine ⟨u, _, rfl, .inl (.inl upd_same), rfl, _, _, rfl, _, _, rfl, rfl, ?_⟩
      refine ⟨_, rfl, _, rfl, a, CC, dx, _, _, rfl, hdx, T.cl, T.nM, chF_m _, _, _, rfl, rfl, _, rfl, ?_⟩
      have step := opens_step (List.getElem?_eq_getElem hi) hn
      refine ifB (fun c => ?_) (fun c => ?_)
      · have lt : cs[i].m < n := by
          have := of_decide_eq_true c
          omega
        rw [if_pos lt] at step
        have z := q (upd H1 u (.tup [V.ref a, V.int (n : Nat)])) (sm.trans st)
        rw [show opens cs (p, ag).2 = false from eq.trans step] at z
        exact z
      · have ge : ¬ cs[i].m < n := by
          have := of_decide_eq_false c
          omega
        rw [if_neg ge] at step
        exact ⟨_, _, rfl, sm.trans st, eq.trans step⟩
    · rintro σ H1 ⟨y2, y3, rfl, sm, eq⟩
      have z := q H1 sm
      have e : opens cs (p, ag).2 = true := by
        rw [show opens cs (p, ag).2 = opens cs ag from rfl, eq, List.length_map, lenA, List.drop_length]
        rfl
      rw [e] at z
      exact z
/-! ### legal_from -/
def spLegal (CC : Addr) : Sp := fun vs H Q _ => ∃ (l t : Addr) (cs : List Ch) (s : Sta), vs = [.ref l, .ref t] ∧ (Chs CC H l cs ∧ StAt H t s) ∧ (s.2.length = cs.length ∧ cs.length ≤ 3) ∧
  ∀ H' q, Same H H' → H q = none → H' q = some (.lst (nints (legal cs s))) → Q (.ref q) H'
abbrev nLegal : List Str := ["channels", "state", "moves", "move"]
theorem scLegal : FnScope nLegal ["channels", "state"] (defScope sLegal) := ⟨rfl, rfl, rfl, by decide +kernel, rfl, by decide +kernel, by decide +kernel⟩
/-- the defs of moves -/
structure MovesAt (K : PySem.W.Frag) (mg : Str → Option Value) (f2 f3 f4 f5 f6 f7 : Addr) (d2 d3 d4 d5 d6 d7 : FuncData) : Prop where
  av : DefAt K mg "available_from" sAvail ["channels", "place"] f2 d2
  ae : DefAt K mg "is_at_end" sAtEnd ["channel", "place"] f3 d3
  ot : DefAt K mg "other_end" sOther ["channel", "place"] f4 d4
  af : DefAt K mg "state_after" sAfter ["channels", "state", "move"] f5 d5
  op : DefAt K mg "all_open" sOpen ["channels", "state"] f6 d6
  le : DefAt K mg "legal_from" sLegal ["channels", "state"] f7 d7
theorem filter_snoc {α : Type} {p : α → Bool} {l : List α} {i : Nat} {x : α} (h : l[i]? = some x) : (l.take (i + 1)).filter p = (l.take i).filter p ++ (if p x = true then [x] else []) := by
  rw [take_snoc h, List.filter_append]
  congr 1
  rw [List.filter_cons]
  rfl
theorem ok_legal {f2 f3 f4 f5 f6 f7 : Addr} {d2 d3 d4 d5 d6 d7 : FuncData} {k : Nat} (M : MovesAt K mg f2 f3 f4 f5 f6 f7 d2 d3 d4 d5 d6 d7) (T : Txt K mg CC CI CR) :
    FnOk P w K mg base CX0 (k + 3) f7 d7 ["channels", "state"] (spLegal CC) := by
  have G2 : FnOk P w K mg base CX0 (k + 2) f2 d2 ["channels", "place"] (spAvail CC) := ok_avail M.av.F T M.ae
  have G5 : FnOk P w K mg base CX0 (k + 2) f5 d5 ["channels", "state", "move"] (spAfter CC) := ok_after M.af.F T M.ot
  have G6 : FnOk P w K mg base CX0 (k + 2) f6 d6 ["channels", "state"] (spOpen CC) := ok_open M.op.F T
  refine M.le.F.ok scLegal (fun vs H Q E h => ?_) (fun cdv A outer s H vs Q E hr h => ?_)
  · obtain ⟨l, t, cs, s, rfl, _⟩ := h
    rfl
  · obtain ⟨l, t, cs, ⟨p, ag⟩, rfl, ⟨hC, hS⟩, ⟨hl, h3⟩, q⟩ := h
    have hl : ag.length = cs.length := hl
    refine ⟨_, pss_cons (ps_set (i := 2) scLegal.nd rfl (.inl rfl) (pe_fn M.av G2 hr (by rfl) (pa_cons (pv 0) (pa_cons (pe_ix ix_tup (pv 1) pe_int (fun _ _ => rfl)) pa_nil))))
      (pss_one (ps_ret (pe_lc (own := [("move", 3)]) (g := gName 3) rfl scLegal.nd (pi_list (pv 2)) (blkOk_by (N := nLegal) (sc := defScope sLegal) (by decide +kernel))
        (fun _ _ _ _ _ => pg_name (i := 3) scLegal.nd rfl (Or.inl rfl))
        (fun _ _ _ _ _ => pts_one (pt_val (pe_fn M.op G6 hr (by rfl) (pa_cons (pv 0) (pa_cons (pe_fn M.af G5 hr (by rfl) (pa_cons (pv 0) (pa_cons (pv 1) (pa_cons (pv 3) pa_nil)))) pa_nil)))))
        (fun _ _ _ _ _ => pv 3)))), ?_⟩
    obtain ⟨b, ht, hb⟩ := hS.at
    refine ⟨_, rfl, _, rfl, t, _, _, _, rfl, rfl, .inl (.inl ht), atI_nat (j := 0) rfl, ?_⟩
    refine ⟨l, cs, p, rfl, hC, h3, fun H1 v s1 nv hv => ?_⟩
    have hV : SqL K H1 v (nints (avail cs p)) := .inl (.inl hv)
    refine ⟨_, rfl, v, rfl, ⟨_, hV⟩, fun o no => ?_⟩
    refine lc_list (K := K) (xs := nints (avail cs p)) (fun i H' => Same H1 H' ∧ H' o = some (.lst (nints (((avail cs p).take i).filter fun m => opens cs (after cs (p, ag) m).2)))) ⟨same_upd no, upd_same⟩ (fun i H' _ h => h.1.seq hV) ?_ ?_
    · rintro i x H2 hx ⟨sm, ho⟩
      obtain ⟨m, hm, rfl⟩ := map_get hx
      have mle := avail_le (List.mem_of_getElem? hm)
      have grow := filter_snoc (p := fun m => opens cs (after cs (p, ag) m).2) hm
      refine ⟨rfl, _, rfl, _, rfl, _, rfl, _, rfl, l, t, cs, (p, ag), m, rfl, ⟨(hC.same s1).same sm, (hS.same s1).same sm⟩, ⟨hl, mle, h3⟩, fun H3 u s3 nu hu => ?_⟩
      refine ⟨l, u, cs, _, rfl, ⟨((hC.same s1).same sm).same s3, hu⟩, by rw [after_len]; exact hl, fun H4 s4 => ?_⟩
      refine ⟨_, rfl, ?_⟩
      have ho4 := s4 _ _ (s3 _ _ ho)
      have sm4 : Same H1 H4 := sm.trans (s3.trans s4)
      refine ifB (fun c => ?_) (fun c => ?_)
      · rw [if_pos c] at grow
        refine ⟨_, rfl, _, ho4, ?_, fun b z e => ?_, ?_⟩
        · rw [nints_len]
          refine small1000 (Nat.le_trans (List.length_filter_le _ _) ?_)
          have := avail_len cs p
          rw [List.length_take]
          omega
        · rw [upd_ne (ne_of_none e no)]
          exact sm4 _ _ e
        · rw [upd_same, grow, nints_append]
          rfl
      · rw [c, if_neg Bool.false_ne_true, List.append_nil] at grow
        exact ⟨sm4, by rw [grow]; exact ho4⟩
    · rintro H2 ⟨sm, ho⟩
      rw [nints_len, List.take_length] at ho
      exact q H2 o (s1.trans sm) (s1.free no) ho
end
end OL
namespace OL
open PySem PySem.Spec PyProof.Rows L2
abbrev sOAges : Stmt := topS 14
abbrev sOStates : Stmt := topS 13
section
variable {P : Program} {w : World} {K : PySem.W.Frag} {mg : Str → Option Value} {base : Heap} {CC CI CR : Addr}
/-- tuples of ages -/
def Tups (H : Hp) (as : List Addr) (ls : List (List Nat)) : Prop := Paired (fun a l => H a = some (.tup (nints l))) as ls
theorem Tups.same {H H' : Hp} {as : List Addr} {ls : List (List Nat)} (e : Same H H') (h : Tups H as ls) : Tups H' as ls := Paired.mapP h fun _ _ q => e _ _ q
theorem paired_at {α β : Type} {F : α → β → Prop} : ∀ {as : List α} {bs : List β}, Paired F as bs → ∀ {i : Nat} {b : β}, bs[i]? = some b → ∃ a, as[i]? = some a ∧ F a b
  | _, _, .nil, i, b, e => by simp at e
  | _, _, .cons r t, 0, b, e => by
    obtain rfl := Option.some.inj e
    exact ⟨_, rfl, r⟩
  | _, _, .cons r t, i + 1, b, e => paired_at t (i := i) e
theorem paired_snoc {α β : Type} {F : α → β → Prop} {a : α} {b : β} (h : F a b) : ∀ {as : List α} {bs : List β}, Paired F as bs → Paired F (as ++ [a]) (bs ++ [b])
  | _, _, .nil => .cons h .nil
  | _, _, .cons r t => .cons r (paired_snoc h t)
theorem range_snoc (n : Nat) : List.range (n + 1) = List.range n ++ [n] := List.range_succ
theorem flat_snoc {α β : Type} {f : α → List β} {l : List α} {i : Nat} {x : α} (h : l[i]? = some x) : (l.take (i + 1)).flatMap f = (l.take i).flatMap f ++ f x := by
  rw [take_snoc h, List.flatMap_append]
  simp
/-! ### open_ages -/
def spOAges (CC : Addr) : Sp := fun vs H Q _ => ∃ (l : Addr) (cs : List Ch), vs = [.ref l] ∧ Chs CC H l cs ∧ (cs.length ≤ 3 ∧ ∀ c ∈ cs, c.m ≤ 3) ∧
  ∀ H' q as, Same H H' → H q = none → H' q = some (.lst (as.map V.ref)) → Tups H' as (openAges cs) → Q (.ref q) H'
theorem scOAges : FnScope ["channels", "found", "channel", "longer", "ages", "age"] ["channels"] (defScope sOAges) := ⟨rfl, rfl, rfl, by decide +kernel, rfl, by decide +kernel, by decide +kernel⟩
theorem ok_oages {f : Addr} {fd : FuncData} {k : Nat} (F : Fun K "open_ages" "open_ages" sOAges f fd) (T : Txt K mg CC CI CR) :
    FnOk P w K mg base CX0 (k + 1) f fd ["channels"] (spOAges CC) := by
  refine F.ok scOAges (fun vs H Q E h => ?_) (fun cdv A outer s H vs Q E hr h => ?_)
  · obtain ⟨l, cs, rfl, _⟩ := h
    rfl
  · obtain ⟨l, cs, rfl, hC, ⟨h3, hm⟩, q⟩ := h
    have nd := scOAges.nd
    refine ⟨_, pss_cons (ps_set (i := 1) nd rfl (.inl rfl) (pe_lst (pa_cons (pe_tup pa_nil) pa_nil)))
      (pss_cons (ps_for PassesOwn.never rfl (pi_list (pv 0)) (pg_name (i := 2) nd rfl (.inl rfl))
        (pss_cons (ps_set (i := 3) nd rfl (.inl rfl) (pe_lst pa_nil))
        (pss_cons (ps_for PassesOwn.never rfl (pi_list (pv 1)) (pg_name (i := 4) nd rfl (.inl rfl))
          (pss_one (ps_for PassesOwn.never rfl (pi_range1 (by rfl) T.bRange (pa_cons (pe_op op_add (pe_fld (pv 2) rfl) pe_int) pa_nil)) (pg_name (i := 5) nd rfl (.inl rfl))
            (pss_one (ps_expr (pe_bm PySem.F.plainAttrs_list PySem.F.slot_list_append PySem.F.type_list_append mt_append (pv 3)
              (pa_cons (pe_op op_catA (pv 4) (pe_tup (pa_cons (pv 5) pa_nil))) pa_nil)))))))
        (pss_one (ps_set (i := 1) nd rfl (.inl rfl) (pv 3))))))
      (pss_one (ps_ret (pv 1)))), ?_⟩
    obtain ⟨chs, hcl, lenA, each⟩ := hC.len
    have hL : SqL K H l (chs.map V.ref) := .inl (.inl hcl)
    refine ⟨by decide, fun e ne => ⟨by show 1 ≤ sizeLine; decide, fun o no => ?_⟩⟩
    have s0 : Same H (upd (upd H e (.tup [])) o (.lst [V.ref e])) := (same_upd ne).trans (same_upd no)
    have nHo : H o = none := (same_upd ne).free no
    refine ⟨_, rfl, l, rfl, ⟨_, s0.seq hL⟩, for_list (K := K) (xs := chs.map V.ref) (fun i σ H' => ∃ y2 y3 y4 y5 o as, σ = [some (.ref l), some (.ref o), y2, y3, y4, y5] ∧ Same H H' ∧ H o = none ∧ H' o = some (.lst (as.map V.ref)) ∧ Tups H' as (openAges (cs.take i)))
      ⟨none, none, none, none, o, [e], rfl, s0, nHo, upd_same, .cons ?_ .nil⟩ (fun i σ H' _ ⟨_, _, _, _, _, _, _, sm, _⟩ => sm.seq hL) ?_ ?_⟩
    · exact (same_upd no) _ _ upd_same
    · -- a channel
      rintro i x σ H1 hx ⟨y2, y3, y4, y5, o, as, rfl, sm, nHo, ho, tu⟩
      obtain ⟨a, ha, rfl⟩ := map_get hx
      have hi : i < cs.length := by
        have := (List.getElem?_eq_some_iff.mp ha).1
        omega
      obtain ⟨a', ha', hch⟩ := each i cs[i] (List.getElem?_eq_getElem hi)
      rw [ha] at ha'
      obtain rfl := Option.some.inj ha'
      refine ⟨Nat.zero_le _, fun b nb => ?_⟩
      have s1 : Same H1 (upd H1 b (.lst [])) := same_upd nb
      have nHb : H b = none := sm.free nb
      have hO : SqL K (upd H1 b (.lst [])) o (as.map V.ref) := .inl (.inl (s1 _ _ ho))
      have few : (openAges (cs.take i)).length ≤ 16 := by
        refine Nat.le_trans (openAges_len _ fun c hc => hm c (List.mem_of_mem_take hc)) ?_
        rw [List.length_take, Nat.min_eq_left (Nat.le_of_lt hi)]
        exact Nat.pow_le_pow_right (by decide : 0 < 4) (by omega : i ≤ 2)
      have m3 : cs[i].m ≤ 3 := hm _ (List.getElem_mem hi)
      have lenF : as.length = (openAges (cs.take i)).length := Paired.length tu
      refine ⟨_, rfl, o, rfl, ⟨_, hO⟩, for_list (K := K) (xs := as.map V.ref) (fun j σ H' => ∃ y4 y5 bs, σ = [some (.ref l), some (.ref o), some (.ref a), some (.ref b), y4, y5] ∧ Same H H' ∧ H' o = some (.lst (as.map V.ref)) ∧ Tups H' as (openAges (cs.take i)) ∧
          H' b = some (.lst (bs.map V.ref)) ∧ Tups H' bs (((openAges (cs.take i)).take j).flatMap (longer cs[i])))
        ⟨y4, y5, [], rfl, sm.trans s1, s1 _ _ ho, tu.same s1, upd_same, .nil⟩ (fun j σ H' _ ⟨_, _, _, _, _, h, _⟩ => .inl (.inl h)) ?_ ?_⟩
      · -- a tuple of ages
        rintro j x σ H2 hx ⟨y4, y5, bs, rfl, sm2, ho2, tu2, hb2, tb2⟩
        obtain ⟨t, ht, rfl⟩ := map_get hx
        have hj : j < (openAges (cs.take i)).length := by
          have := (List.getElem?_eq_some_iff.mp ht).1
          omega
        have hg := List.getElem?_eq_getElem hj
        obtain ⟨t', ht', htt⟩ := paired_at tu2 hg
        rw [ht] at ht'
        obtain rfl := Option.some.inj ht'
        obtain ⟨dx, hdx⟩ := hch.same sm2
        refine ⟨_, rfl, a, CC, dx, _, _, rfl, hdx, T.cl, T.nM, chF_m _, _, _, rfl, rfl, _, rfl, by omega, by omega, ?_⟩
        have en : ((cs[i].m : Int) + 1).toNat = cs[i].m + 1 := by omega
        rw [en]
        refine for_range (fun k σ H' => ∃ y5 bs, σ = [some (.ref l), some (.ref o), some (.ref a), some (.ref b), some (.ref t), y5] ∧ Same H H' ∧ H' o = some (.lst (as.map V.ref)) ∧ Tups H' as (openAges (cs.take i)) ∧
            H' b = some (.lst (bs.map V.ref)) ∧ Tups H' bs (((openAges (cs.take i)).take j).flatMap (longer cs[i]) ++ (List.range k).map fun x => (openAges (cs.take i))[j] ++ [x]))
          ⟨y5, bs, rfl, sm2, ho2, tu2, hb2, by simpa using tb2⟩ ?_ ?_
        · rintro k σ H3 hk ⟨y5, bs, rfl, sm3, ho3, tu3, hb3, tb3⟩
          obtain ⟨t3, ht3, htt3⟩ := paired_at tu3 hg
          rw [ht] at ht3
          obtain rfl := Option.some.inj ht3
          have lenB : bs.length ≤ 1000 := by
            have e1 := Paired.length tb3
            have e2 := flat_len cs[i] ((openAges (cs.take i)).take j)
            rw [List.length_append, List.length_map, List.length_range, e2, List.length_take] at e1
            have : min j (openAges (cs.take i)).length * (cs[i].m + 1) ≤ 16 * 4 := Nat.mul_le_mul (by omega) (by omega)
            omega
          refine ⟨_, rfl, .inl ⟨rfl, _, .inl (.inl hb3)⟩, _, rfl, _, rfl, by show 1 ≤ sizeLine; decide, fun u nu => ?_⟩
          have su : Same H3 (upd H3 u (.tup [V.int (0 + (k : Nat))])) := same_upd nu
          have ek : (0 : Int) + (k : Nat) = (k : Nat) := by omega
          have lenT : (nints (openAges (cs.take i))[j]).length ≤ 3 := by
            rw [nints_len, openAges_all _ _ (List.getElem_mem hj), List.length_take]
            omega
          refine ⟨t, u, _, _, rfl, rfl, .inl (.inl (su _ _ htt3)), .inl (.inl upd_same), ?_, fun z => ?_, (fun _ z => nomatch z), fun z _ v nv => ?_⟩
          · show (nints (openAges (cs.take i))[j]).length + 1 ≤ sizeLine
            exact Nat.le_trans (Nat.add_le_add_right lenT 1) (by decide)
          · -- the tuple of ages was empty: the new one is the pair's right part
            refine ⟨b, _, _, rfl, rfl, su _ _ hb3, ?_, ?_⟩
            · rw [List.length_map]
              exact small1000 lenB
            · have e0 : (openAges (cs.take i))[j] = [] := by
                unfold nints at z
                exact List.map_eq_nil_iff.mp z
              have sw : ∀ c ob, H3 c = some ob → c ≠ b → upd (upd H3 u (.tup [V.int (0 + (k : Nat))])) b (.lst (bs.map V.ref ++ [V.ref u])) c = some ob := fun c ob e ne => by
                rw [upd_ne ne]
                exact su _ _ e
              have nbo : o ≠ b := by
                intro e
                rw [e] at ho3
                rw [e] at ho
                rw [nb] at ho
                cases ho
              have tupne : ∀ {c : Addr} {xs : List V}, H3 c = some (.tup xs) → c ≠ b := fun hc e => by
                rw [e, hb3] at hc
                cases hc
              refine ⟨_, bs ++ [u], rfl, fun c ob e => sw c ob (sm3 _ _ e) (ne_of_none e nHb), sw _ _ ho3 nbo, Paired.mapP tu3 fun c x e => sw _ _ e (tupne e), ?_, ?_⟩
              · rw [upd_same, List.map_append]
                rfl
              · rw [range_snoc, List.map_append, ← List.append_assoc]
                refine paired_snoc ?_ (Paired.mapP tb3 fun c x e => sw _ _ e (tupne e))
                rw [upd_ne (fun e => by rw [e, hb3] at nu; cases nu), upd_same, e0, ek]
                rfl
          · have sv : Same (upd H3 u (.tup [V.int (0 + (k : Nat))])) (upd (upd H3 u (.tup [V.int (0 + (k : Nat))])) v (.tup (nints (openAges (cs.take i))[j] ++ [V.int (0 + (k : Nat))]))) := same_upd nv
            have suv := su.trans sv
            refine ⟨b, _, _, rfl, rfl, suv _ _ hb3, ?_, ?_⟩
            · rw [List.length_map]
              exact small1000 lenB
            · have sw : ∀ c ob, H3 c = some ob → c ≠ b → upd (upd (upd H3 u (.tup [V.int (0 + (k : Nat))])) v (.tup (nints (openAges (cs.take i))[j] ++ [V.int (0 + (k : Nat))]))) b (.lst (bs.map V.ref ++ [V.ref v])) c = some ob := fun c ob e ne => by
                rw [upd_ne ne]
                exact suv _ _ e
              have nbo : o ≠ b := by
                intro e
                rw [e] at ho3
                rw [e] at ho
                rw [nb] at ho
                cases ho
              have tupne : ∀ {c : Addr} {xs : List V}, H3 c = some (.tup xs) → c ≠ b := fun hc e => by
                rw [e, hb3] at hc
                cases hc
              refine ⟨_, bs ++ [v], rfl, fun c ob e => sw c ob (sm3 _ _ e) (ne_of_none e nHb), sw _ _ ho3 nbo, Paired.mapP tu3 fun c x e => sw _ _ e (tupne e), ?_, ?_⟩
              · rw [upd_same, List.map_append]
                rfl
              · rw [range_snoc, List.map_append, ← List.append_assoc]
                refine paired_snoc ?_ (Paired.mapP tb3 fun c x e => sw _ _ e (tupne e))
                have nvb : v ≠ b := fun e => by
                  have := su _ _ hb3
                  rw [e, this] at nv
                  cases nv
                rw [upd_ne nvb, upd_same, ek, nints_append]
                rfl
        · rintro σ H3 ⟨y5, bs, rfl, sm3, ho3, tu3, hb3, tb3⟩
          refine ⟨_, y5, bs, rfl, sm3, ho3, tu3, hb3, ?_⟩
          rw [flat_snoc hg]
          exact tb3
      · rintro σ H2 ⟨y4, y5, bs, rfl, sm2, ho2, tu2, hb2, tb2⟩
        rw [List.length_map, lenF, List.take_length] at tb2
        refine ⟨_, rfl, _, _, _, _, b, bs, rfl, sm2, nHb, hb2, ?_⟩
        rw [take_snoc (List.getElem?_eq_getElem hi), openAges_snoc]
        exact tb2
    · rintro σ H1 ⟨y2, y3, y4, y5, o, as, rfl, sm, nHo, ho, tu⟩
      rw [List.length_map, lenA, List.take_length] at tu
      exact ⟨_, rfl, q H1 o as sm nHo ho tu⟩
end
end OL
namespace OL
open PySem PySem.Spec PyProof.Rows L2
abbrev sInto : Stmt := topS 12
abbrev sStay : Stmt := topS 11
abbrev sSafe : Stmt := topS 10
abbrev sSafeMoves : Stmt := topS 9
section
variable {P : Program} {w : World} {K : PySem.W.Frag} {mg : Str → Option Value} {base : Heap} {CC CI CR : Addr}
/-- a dict of states -/
def Dct (w : World) (H : Hp) (d : Addr) (S : List Sta) : Prop := ∃ xs : List (SK × Addr), H d = some (SD w d xs) ∧ KeysAt H xs ∧ xs.map (·.1) = S.map ck
/-- the same, locked perhaps -/
def DctR (w : World) (H : Hp) (d : Addr) (S : List Sta) : Prop := ∃ xs : List (SK × Addr), Rd H d (SD w d xs) ∧ KeysAt H xs ∧ xs.map (·.1) = S.map ck
theorem Dct.rd {w : World} {H : Hp} {d : Addr} {S : List Sta} (h : Dct w H d S) : DctR w H d S := let ⟨xs, a, b, c⟩ := h; ⟨xs, .inl a, b, c⟩
theorem Dct.same {w : World} {H H' : Hp} {d : Addr} {S : List Sta} (e : Same H H') (h : Dct w H d S) : Dct w H' d S := let ⟨xs, a, b, c⟩ := h; ⟨xs, e _ _ a, b.same e, c⟩
theorem DctR.same {w : World} {H H' : Hp} {d : Addr} {S : List Sta} (e : Same H H') (h : DctR w H d S) : DctR w H' d S := by
  obtain ⟨xs, a, b, c⟩ := h
  refine ⟨xs, ?_, b.same e, c⟩
  rcases a with a | ⟨o, a⟩
  · exact .inl (e _ _ a)
  · exact .inr ⟨o, e _ _ a⟩
theorem mem_ck {s : Sta} {S : List Sta} : ck s ∈ S.map ck ↔ s ∈ S := by
  constructor
  · intro h
    obtain ⟨t, ht, e⟩ := List.mem_map.mp h
    exact ck_inj e ▸ ht
  · exact fun h => List.mem_map.mpr ⟨s, h, rfl⟩
/-! ### open_states -/
def spOStates (w : World) (CC : Addr) : Sp := fun vs H Q _ => ∃ (n : Nat) (l : Addr) (cs : List Ch), vs = [.int (n : Int), .ref l] ∧ Chs CC H l cs ∧ (cs.length ≤ 3 ∧ n ≤ 4 ∧ ∀ c ∈ cs, c.m ≤ 3) ∧
  ∀ H' d, Same H H' → H d = none → Dct w H' d (openStates n cs) → Q (.ref d) H'
theorem scOStates : FnScope ["place_count", "channels", "states", "ages", "place"] ["place_count", "channels"] (defScope sOStates) := ⟨rfl, rfl, rfl, by decide +kernel, rfl, by decide +kernel, by decide +kernel⟩
theorem ok_ostates {f fA : Addr} {fd fdA : FuncData} {k : Nat} (F : Fun K "open_states" "open_states" sOStates f fd) (T : Txt K mg CC CI CR) (D : DefAt K mg "open_ages" sOAges ["channels"] fA fdA) :
    FnOk P w K mg base CX0 (k + 2) f fd ["place_count", "channels"] (spOStates w CC) := by
  have G : FnOk P w K mg base CX0 (k + 1) fA fdA ["channels"] (spOAges CC) := ok_oages D.F T
  refine F.ok scOStates (fun vs H Q E h => ?_) (fun cdv A outer s H vs Q E hr h => ?_)
  · obtain ⟨n, l, cs, rfl, _⟩ := h
    rfl
  · obtain ⟨n, l, cs, rfl, hC, ⟨h3, hn, hm⟩, q⟩ := h
    have nd := scOStates.nd
    refine ⟨_, pss_cons (ps_set (i := 2) nd rfl (.inl rfl) pe_snew)
      (pss_cons (ps_for PassesOwn.never rfl (pi_list (pe_fn D G hr (by rfl) (pa_cons (pv 1) pa_nil))) (pg_name (i := 3) nd rfl (.inl rfl))
        (pss_one (ps_for PassesOwn.never rfl (pi_range1 (by rfl) T.bRange (pa_cons (pv 0) pa_nil)) (pg_name (i := 4) nd rfl (.inl rfl))
          (pss_one (ps_sput (by exact hr.units) (pv 2) (pe_tup (pa_cons (pv 4) (pa_cons (pv 3) pa_nil))) pe_bl rfl)))))
      (pss_one (ps_ret (pv 2)))), ?_⟩
    intro d nd'
    have s0 := same_upd (o := SD w d []) nd'
    refine ⟨_, rfl, l, cs, rfl, hC.same s0, ⟨h3, hm⟩, fun H1 o as s1 no ho tu => ?_⟩
    have lenF : as.length = (openAges cs).length := Paired.length tu
    have few : (openAges cs).length ≤ 64 := Nat.le_trans (openAges_len cs hm) (pow_four h3)
    have hO : SqL K H1 o (as.map V.ref) := .inl (.inl ho)
    have hd1 : H1 d = some (SD w d []) := s1 _ _ upd_same
    let f := fun l : List Nat => (List.range n).map fun p => (p, l)
    refine ⟨o, rfl, ⟨_, hO⟩, for_list (K := K) (xs := as.map V.ref) (fun i σ H' => ∃ y3 y4 xs, σ = [some (.int n), some (.ref l), some (.ref d), y3, y4] ∧ Same H H' ∧ H' o = some (.lst (as.map V.ref)) ∧ Tups H' as (openAges cs) ∧
        H' d = some (SD w d xs) ∧ KeysAt H' xs ∧ xs.map (·.1) = (((openAges cs).take i).flatMap f).map ck)
      ⟨none, none, [], rfl, s0.trans s1, ho, tu, hd1, (fun p hp => nomatch hp), rfl⟩ (fun i σ H' _ ⟨_, _, _, _, _, h, _⟩ => .inl (.inl h)) ?_ ?_⟩
    · rintro i x σ H2 hx ⟨y3, y4, xs, rfl, sm, ho2, tu2, hd2, ks2, ex2⟩
      obtain ⟨t, ht, rfl⟩ := map_get hx
      have hi : i < (openAges cs).length := by
        have := (List.getElem?_eq_some_iff.mp ht).1
        omega
      have hg := List.getElem?_eq_getElem hi
      refine ⟨_, rfl, n, rfl, by omega, by omega, ?_⟩
      rw [show (n : Int).toNat = n from Int.toNat_natCast n]
      refine for_range (fun k σ H' => ∃ y4 xs, σ = [some (.int n), some (.ref l), some (.ref d), some (.ref t), y4] ∧ Same H H' ∧ H' o = some (.lst (as.map V.ref)) ∧ Tups H' as (openAges cs) ∧
          H' d = some (SD w d xs) ∧ KeysAt H' xs ∧ xs.map (·.1) = (((openAges cs).take i).flatMap f ++ (List.range k).map fun p => (p, (openAges cs)[i])).map ck)
        ⟨y4, xs, rfl, sm, ho2, tu2, hd2, ks2, by simpa using ex2⟩ ?_ ?_
      · rintro k σ H3 hk ⟨y4, xs, rfl, sm3, ho3, tu3, hd3, ks3, ex3⟩
        obtain ⟨t', ht', htt⟩ := paired_at tu3 hg
        rw [ht] at ht'
        obtain rfl := Option.some.inj ht'
        have ek : (0 : Int) + (k : Nat) = (k : Nat) := by omega
        refine ⟨_, rfl, _, rfl, _, rfl, by show 2 ≤ sizeLine; decide, fun u nu => ?_⟩
        have su : Same H3 (upd H3 u (.tup [V.int (0 + (k : Nat)), V.ref t])) := same_upd nu
        have ka : KeyAt (upd H3 u (.tup [V.int (0 + (k : Nat)), V.ref t])) u (ck (k, (openAges cs)[i])) :=
          StAt.mk (s := (k, (openAges cs)[i])) (b := t) (by rw [upd_same, ek]) (su _ _ htt)
        have part : List.Sublist (((openAges cs).take i).flatMap f ++ (List.range k).map fun p => (p, (openAges cs)[i])) (openStates n cs) := by
          have e1 : openStates n cs = ((openAges cs).take i).flatMap f ++ ((openAges cs).drop i).flatMap f := by
            rw [← List.flatMap_append, List.take_append_drop]
            rfl
          have e2 : (openAges cs).drop i = (openAges cs)[i] :: (openAges cs).drop (i + 1) := List.drop_eq_getElem_cons hi
          rw [e1, e2, List.flatMap_cons]
          refine List.Sublist.append (List.Sublist.refl _) (List.Sublist.trans ?_ (List.sublist_append_left _ _))
          exact List.Sublist.map _ (List.range_sublist.mpr (Nat.le_of_lt hk))
        have small : xs.length ≤ 256 := by
          have e1 : xs.length = (xs.map (·.1)).length := (List.length_map _).symm
          rw [e1, ex3, List.length_map]
          exact Nat.le_trans part.length_le (openStates_few hm h3 hn)
        refine ⟨u, d, _, xs, rfl, rfl, rfl, su _ _ hd3, ks3.same su, ka, ?_, Nat.lt_of_le_of_lt small (by decide), ?_⟩
        · rw [ex3, mem_ck]
          intro hm2
          have nod := openStates_nodup n cs
          have part2 : List.Sublist ((((openAges cs).take i).flatMap f ++ (List.range k).map fun p => (p, (openAges cs)[i])) ++ [(k, (openAges cs)[i])]) (openStates n cs) := by
            have e1 : openStates n cs = ((openAges cs).take i).flatMap f ++ ((openAges cs).drop i).flatMap f := by
              rw [← List.flatMap_append, List.take_append_drop]
              rfl
            have e2 : (openAges cs).drop i = (openAges cs)[i] :: (openAges cs).drop (i + 1) := List.drop_eq_getElem_cons hi
            rw [e1, e2, List.flatMap_cons, List.append_assoc]
            refine List.Sublist.append (List.Sublist.refl _) (List.Sublist.trans ?_ (List.sublist_append_left _ _))
            have e3 : ((List.range k).map fun p => (p, (openAges cs)[i])) ++ [(k, (openAges cs)[i])] = (List.range (k + 1)).map fun p => (p, (openAges cs)[i]) := by
              rw [range_snoc, List.map_append]
              rfl
            rw [e3]
            exact List.Sublist.map _ (List.range_sublist.mpr hk)
          have := nod.sublist part2
          rw [List.nodup_append] at this
          exact this.2.2 _ hm2 _ List.mem_cons_self rfl
        · have sw : ∀ c ob, H3 c = some ob → c ≠ d → upd (upd H3 u (.tup [V.int (0 + (k : Nat)), V.ref t])) d (SD w d (xs ++ [(ck (k, (openAges cs)[i]), u)])) c = some ob := fun c ob e ne => by
            rw [upd_ne ne]
            exact su _ _ e
          have nod : o ≠ d := fun e => by
            rw [e, hd3] at ho3
            cases ho3
          have tupne : ∀ {H' : Hp} {c : Addr} {xs' : List V} {ys : List (SK × Addr)}, H' d = some (SD w d ys) → H' c = some (.tup xs') → c ≠ d := fun h1 h2 e => by
            rw [e, h1] at h2
            cases h2
          have hdu := su _ _ hd3
          have keyup : ∀ {c : Addr} {z : SK}, KeyAt (upd H3 u (.tup [V.int (0 + (k : Nat)), V.ref t])) c z → KeyAt (upd (upd H3 u (.tup [V.int (0 + (k : Nat)), V.ref t])) d (SD w d (xs ++ [(ck (k, (openAges cs)[i]), u)]))) c z := by
            rintro c z ⟨b, h1, h2⟩
            exact ⟨b, by rw [upd_ne (tupne hdu h1)]; exact h1, by rw [upd_ne (tupne hdu h2)]; exact h2⟩
          refine ⟨_, xs ++ [(ck (k, (openAges cs)[i]), u)], rfl, fun c ob e => sw c ob (sm3 _ _ e) (ne_of_none e nd'), sw _ _ ho3 nod, Paired.mapP tu3 fun c x e => sw _ _ e (tupne hd3 e), upd_same, fun p hp => ?_, ?_⟩
          · rcases List.mem_append.mp hp with hp | hp
            · exact keyup ((ks3 p hp).same su)
            · obtain rfl := List.mem_singleton.mp hp
              exact keyup ka
          · rw [List.map_append, ex3, range_snoc]
            simp only [List.map_append, List.append_assoc]
            rfl
      · rintro σ H3 ⟨y4, xs, rfl, sm3, ho3, tu3, hd3, ks3, ex3⟩
        refine ⟨_, y4, xs, rfl, sm3, ho3, tu3, hd3, ks3, ?_⟩
        rw [flat_snoc hg]
        exact ex3
    · rintro σ H2 ⟨y3, y4, xs, rfl, sm, ho2, tu2, hd2, ks2, ex2⟩
      rw [List.length_map, lenF, List.take_length] at ex2
      exact ⟨_, rfl, q H2 d sm nd' ⟨xs, hd2, ks2, ex2⟩⟩
/-! ### moves_into -/
def spInto (w : World) (CC : Addr) : Sp := fun vs H Q _ => ∃ (l t d : Addr) (cs : List Ch) (s : Sta) (S : List Sta), vs = [.ref l, .ref t, .ref d] ∧ (Chs CC H l cs ∧ StAt H t s ∧ DctR w H d S) ∧ (s.2.length = cs.length ∧ cs.length ≤ 3) ∧
  ∀ H' q, Same H H' → H q = none → H' q = some (.lst (nints (into cs s S))) → Q (.ref q) H'
abbrev nInto : List Str := ["channels", "state", "states", "moves", "move"]
theorem scInto : FnScope nInto ["channels", "state", "states"] (defScope sInto) := ⟨rfl, rfl, rfl, by decide +kernel, rfl, by decide +kernel, by decide +kernel⟩
theorem ok_into {f2 f3 f4 f5 f6 f7 f : Addr} {d2 d3 d4 d5 d6 d7 fd : FuncData} {k : Nat} (F : Fun K "moves_into" "moves_into" sInto f fd) (M : MovesAt K mg f2 f3 f4 f5 f6 f7 d2 d3 d4 d5 d6 d7) (T : Txt K mg CC CI CR) :
    FnOk P w K mg base CX0 (k + 4) f fd ["channels", "state", "states"] (spInto w CC) := by
  have G7 : FnOk P w K mg base CX0 (k + 3) f7 d7 ["channels", "state"] (spLegal CC) := ok_legal M T
  have G5 : FnOk P w K mg base CX0 (k + 3) f5 d5 ["channels", "state", "move"] (spAfter CC) := ok_after M.af.F T M.ot
  refine F.ok scInto (fun vs H Q E h => ?_) (fun cdv A outer s H vs Q E hr h => ?_)
  · obtain ⟨l, t, d, cs, s, S, rfl, _⟩ := h
    rfl
  · obtain ⟨l, t, d, cs, s, S, rfl, ⟨hC, hS, hD⟩, ⟨hl, h3⟩, q⟩ := h
    have nd := scInto.nd
    refine ⟨_, pss_cons (ps_set (i := 3) nd rfl (.inl rfl) (pe_fn M.le G7 hr (by rfl) (pa_cons (pv 0) (pa_cons (pv 1) pa_nil))))
      (pss_one (ps_ret (pe_lc (own := [("move", 4)]) (g := gName 4) rfl nd (pi_list (pv 3)) (blkOk_by (N := nInto) (sc := defScope sInto) (by decide +kernel))
        (fun _ _ _ _ _ => pg_name (i := 4) nd rfl (Or.inl rfl))
        (fun _ _ _ _ _ => pts_one (pt_sin (w := w) hr (pe_fn M.af G5 hr (by rfl) (pa_cons (pv 0) (pa_cons (pv 1) (pa_cons (pv 4) pa_nil)))) (pv 2)))
        (fun _ _ _ _ _ => pv 4)))), ?_⟩
    refine ⟨_, rfl, _, rfl, l, t, cs, s, rfl, ⟨hC, hS⟩, ⟨hl, h3⟩, fun H1 v s1 nv hv => ?_⟩
    have hV : SqL K H1 v (nints (legal cs s)) := .inl (.inl hv)
    refine ⟨_, rfl, v, rfl, ⟨_, hV⟩, fun o no => ?_⟩
    refine lc_list (K := K) (xs := nints (legal cs s)) (fun i H' => Same H1 H' ∧ H' o = some (.lst (nints (((legal cs s).take i).filter fun m => decide (after cs s m ∈ S))))) ⟨same_upd no, upd_same⟩ (fun i H' _ h => h.1.seq hV) ?_ ?_
    · rintro i x H2 hx ⟨sm, ho⟩
      obtain ⟨m, hm, rfl⟩ := map_get hx
      have mle := legal_le (List.mem_of_getElem? hm)
      have grow := filter_snoc (p := fun m => decide (after cs s m ∈ S)) hm
      have s2 := s1.trans sm
      refine ⟨rfl, _, rfl, _, rfl, _, rfl, l, t, cs, s, m, rfl, ⟨hC.same s2, hS.same s2⟩, ⟨hl, mle, h3⟩, fun H3 u s3 nu hu => ?_⟩
      obtain ⟨xs, hd3, ks3, ex⟩ := (hD.same s2).same s3
      refine ⟨_, rfl, u, d, _, xs, rfl, rfl, hd3, ks3, hu, _, rfl, ?_⟩
      have ec : decide (ck (after cs s m) ∈ xs.map (·.1)) = decide (after cs s m ∈ S) := by
        rw [ex]
        exact decide_eq_decide.mpr mem_ck
      rw [ec]
      have ho3 := s3 _ _ ho
      have sm3 : Same H1 H3 := sm.trans s3
      refine ifB (fun c => ?_) (fun c => ?_)
      · rw [if_pos c] at grow
        refine ⟨_, rfl, _, ho3, ?_, fun b z e => ?_, ?_⟩
        · rw [nints_len]
          refine small1000 (Nat.le_trans (List.length_filter_le _ _) ?_)
          have := legal_len cs s
          rw [List.length_take]
          omega
        · rw [upd_ne (ne_of_none e no)]
          exact sm3 _ _ e
        · rw [upd_same, grow, nints_append]
          rfl
      · rw [c, if_neg Bool.false_ne_true, List.append_nil] at grow
        exact ⟨sm3, by rw [grow]; exact ho3⟩
    · rintro H2 ⟨sm, ho⟩
      rw [nints_len, List.take_length] at ho
      exact q H2 o (s1.trans sm) (s1.free no) ho
end
end OL
namespace OL
open PySem PySem.Spec PyProof.Rows L2
section
variable {P : Program} {w : World} {K : PySem.W.Frag} {mg : Str → Option Value} {base : Heap} {CC CI CR : Addr}
/-- all that was tracked, but at d, is as it was -/
def But (d : Addr) (H H' : Hp) : Prop := ∀ b o, H b = some o → b ≠ d → H' b = some o
theorem But.key {d : Addr} {H H' : Hp} {xs : List (SK × Addr)} {c : Addr} {z : SK} (e : But d H H') (hd : H d = some (SD w d xs)) (h : KeyAt H c z) : KeyAt H' c z := by
  obtain ⟨b, h1, h2⟩ := h
  exact ⟨b, e _ _ h1 (ne_of h1 hd (fun q => nomatch q)), e _ _ h2 (ne_of h2 hd (fun q => nomatch q))⟩
theorem But.chs {d l : Addr} {H H' : Hp} {xs : List (SK × Addr)} {cs : List Ch} (e : But d H H') (hd : H d = some (SD w d xs)) (h : Chs CC H l cs) : Chs CC H' l cs := by
  obtain ⟨as, h1, h2⟩ := h
  refine ⟨as, e _ _ h1 (ne_of h1 hd (fun q => nomatch q)), Paired.mapP h2 fun a c q => ?_⟩
  obtain ⟨dx, q⟩ := q
  exact ⟨dx, e _ _ q (ne_of q hd (fun z => nomatch z))⟩
/-! ### states_that_can_stay -/
def spStay (w : World) (CC : Addr) : Sp := fun vs H Q _ => ∃ (l d : Addr) (cs : List Ch) (S : List Sta), vs = [.ref l, .ref d] ∧ (Chs CC H l cs ∧ Dct w H d S) ∧ (cs.length ≤ 3 ∧ S.Nodup ∧ S.length ≤ 256 ∧ ∀ s ∈ S, s.2.length = cs.length) ∧
  ∀ H' k, Same H H' → H k = none → Dct w H' k (stay cs S) → Q (.ref k) H'
theorem scStay : FnScope ["channels", "states", "kept", "state"] ["channels", "states"] (defScope sStay) := ⟨rfl, rfl, rfl, by decide +kernel, rfl, by decide +kernel, by decide +kernel⟩
theorem nints_empty (l : List Nat) : (nints l).isEmpty = l.isEmpty := by cases l <;> rfl
theorem ok_stay {f2 f3 f4 f5 f6 f7 fI f : Addr} {d2 d3 d4 d5 d6 d7 dI fd : FuncData} {k : Nat} (F : Fun K "states_that_can_stay" "states_that_can_stay" sStay f fd) (DI : DefAt K mg "moves_into" sInto ["channels", "state", "states"] fI dI)
    (M : MovesAt K mg f2 f3 f4 f5 f6 f7 d2 d3 d4 d5 d6 d7) (T : Txt K mg CC CI CR) :
    FnOk P w K mg base CX0 (k + 5) f fd ["channels", "states"] (spStay w CC) := by
  have GI : FnOk P w K mg base CX0 (k + 4) fI dI ["channels", "state", "states"] (spInto w CC) := ok_into DI.F M T
  refine F.ok scStay (fun vs H Q E h => ?_) (fun cdv A outer s H vs Q E hr h => ?_)
  · obtain ⟨l, d, cs, S, rfl, _⟩ := h
    rfl
  · obtain ⟨l, d, cs, S, rfl, ⟨hC, xs, hd, ks, ex⟩, ⟨h3, nodS, fewS, all⟩, q⟩ := h
    have nd := scStay.nd
    refine ⟨_, pss_cons (ps_set (i := 2) nd rfl (.inl rfl) pe_snew)
      (pss_cons (ps_lock (ps_for PassesOwn.never rfl (pi_skeys (pv 1)) (pg_name (i := 3) nd rfl (.inl rfl))
        (pss_one (ps_if (pt_truth (pe_fn DI GI hr (by rfl) (pa_cons (pv 0) (pa_cons (pv 3) (pa_cons (pv 1) pa_nil)))) (fun _ => rfl))
          (pss_one (ps_sput (by exact hr.units) (pv 2) (pv 3) pe_bl rfl)) pss_nil))))
      (pss_one (ps_ret (pv 2)))), ?_⟩
    intro c nc
    have s1 := same_upd (o := SD w c []) nc
    have hdc : d ≠ c := ne_of_none hd nc
    have hd1 : upd H c (SD w c []) d = some (SD w d xs) := s1 _ _ hd
    have lenX : xs.length = S.length := by
      have := congrArg List.length ex
      rwa [List.length_map, List.length_map] at this
    refine ⟨d, SD w d xs, hd1, True.intro, fun od => ?_⟩
    refine ⟨_, rfl, d, od, xs, rfl, upd_same, ?_⟩
    refine for_it walk_sd (fun i σ H' => ∃ y3 ys, σ = [some (.ref l), some (.ref d), some (.ref c), y3] ∧ But d H H' ∧ H' d = some (.frz od (SD w d xs)) ∧ H' c = some (SD w c ys) ∧ KeysAt H' ys ∧ ys.map (·.1) = ((S.take i).filter (canStay cs S)).map ck)
      ⟨none, [], rfl, fun b o e ne => (upd_ne ne).trans (s1 _ _ e), upd_same, (upd_ne hdc.symm).trans upd_same, (fun p hp => nomatch hp), rfl⟩ (fun i σ H' _ ⟨_, _, _, _, h, _⟩ => h) ?_ ?_
    · rintro i x σ H1 H2 hi ⟨y3, ys, rfl, bt, fz, hc, kys, ey⟩ ⟨e12, p, hp, rfl⟩
      have e12 := e12.symm
      subst e12
      have hiS : i < S.length := by omega
      have ep : p.1 = ck S[i] := by
        have e1 : (xs.map (·.1))[i]? = some p.1 := by rw [List.getElem?_map, hp]; rfl
        have e2 : (S.map ck)[i]? = some (ck S[i]) := by rw [List.getElem?_map, List.getElem?_eq_getElem hiS]; rfl
        rw [ex] at e1
        exact Option.some.inj (e1.symm.trans e2)
      have kp : KeyAt H p.2 (ck S[i]) := ep ▸ ks p (List.mem_of_getElem? hp)
      have kp1 : StAt H1 p.2 S[i] := bt.key hd kp
      have ks1 : KeysAt H1 xs := fun z hz => bt.key hd (ks z hz)
      refine ⟨_, rfl, _, rfl, _, rfl, l, p.2, d, cs, S[i], S, rfl, ⟨bt.chs hd hC, kp1, ⟨xs, .inr ⟨od, fz⟩, ks1, ex⟩⟩, ⟨all _ (List.getElem_mem hiS), h3⟩, fun H2 v s2 nv hv => ?_⟩
      refine ⟨_, .inl ⟨_, .inl (.inl hv), rfl⟩, ?_⟩
      rw [nints_empty]
      have grow := filter_snoc (p := canStay cs S) (List.getElem?_eq_getElem hiS)
      refine ifB (fun t => ?_) (fun t => ?_)
      · have can : canStay cs S S[i] = true := t
        rw [if_pos can] at grow
        have small : ys.length < sizeLine := by
          have e1 := congrArg List.length ey
          rw [List.length_map, List.length_map] at e1
          have e2 := List.length_filter_le (canStay cs S) (S.take i)
          rw [List.length_take] at e2
          exact Nat.lt_of_le_of_lt (m := 256) (by omega) (by decide)
        refine ⟨_, rfl, _, rfl, p.2, c, ck S[i], ys, rfl, rfl, rfl, s2 _ _ hc, kys.same s2, KeyAt.same s2 kp1, ?_, small, ?_⟩
        · rw [ey, mem_ck]
          intro m
          have m2 := (List.mem_filter.mp m).1
          have n2 : (S.take i ++ [S[i]]).Nodup := by
            rw [← take_snoc (List.getElem?_eq_getElem hiS)]
            exact nodS.sublist (List.take_sublist _ _)
          rw [List.nodup_append] at n2
          exact n2.2.2 _ m2 _ List.mem_cons_self rfl
        · have hc2 := s2 _ _ hc
          have keyup : ∀ {a : Addr} {z : SK}, KeyAt H2 a z → KeyAt (upd H2 c (SD w c (ys ++ [(ck S[i], p.2)]))) a z := by
            rintro a z ⟨b, h1, h2⟩
            exact ⟨b, by rw [upd_ne (ne_of h1 hc2 (fun q => nomatch q))]; exact h1, by rw [upd_ne (ne_of h2 hc2 (fun q => nomatch q))]; exact h2⟩
          refine ⟨_, ys ++ [(ck S[i], p.2)], rfl, fun b o e ne => ?_, ?_, upd_same, fun z hz => ?_, ?_⟩
          · rw [upd_ne (ne_of_none e nc)]
            exact s2 _ _ (bt _ _ e ne)
          · rw [upd_ne hdc]
            exact s2 _ _ fz
          · rcases List.mem_append.mp hz with hz | hz
            · exact keyup ((kys z hz).same s2)
            · obtain rfl := List.mem_singleton.mp hz
              exact keyup (KeyAt.same s2 kp1)
          · rw [List.map_append, ey, grow, List.map_append]
            rfl
      · have can : canStay cs S S[i] = false := t
        rw [can, if_neg Bool.false_ne_true, List.append_nil] at grow
        exact ⟨_, ys, rfl, fun b o e ne => s2 _ _ (bt _ _ e ne), s2 _ _ fz, s2 _ _ hc, kys.same s2, by rw [grow]; exact ey⟩
    · rintro σ H1 ⟨y3, ys, rfl, bt, fz, hc, kys, ey⟩
      rw [lenX, List.take_length] at ey
      refine ⟨fz, _, rfl, q _ c (fun b o e => ?_) nc ⟨ys, (upd_ne hdc.symm).trans hc, fun z hz => ?_, ey⟩⟩
      · by_cases e2 : b = d
        · rw [e2, upd_same]
          rw [e2, hd] at e
          exact e
        · rw [upd_ne e2]
          exact bt _ _ e e2
      · obtain ⟨b, h1, h2⟩ := kys z hz
        exact ⟨b, by rw [upd_ne (ne_of h1 fz (fun q => nomatch q))]; exact h1, by rw [upd_ne (ne_of h2 fz (fun q => nomatch q))]; exact h2⟩
/-! ### safe_states -/
def spSafe (w : World) (CC : Addr) : Sp := fun vs H Q _ => ∃ (n : Nat) (l : Addr) (cs : List Ch), vs = [.int (n : Int), .ref l] ∧ Chs CC H l cs ∧ (cs.length ≤ 3 ∧ n ≤ 4 ∧ ∀ c ∈ cs, c.m ≤ 3) ∧
  ∀ H' d, Same H H' → H d = none → Dct w H' d (safeSt n cs) → Q (.ref d) H'
theorem scSafe : FnScope ["place_count", "channels", "safe", "kept"] ["place_count", "channels"] (defScope sSafe) := ⟨rfl, rfl, rfl, by decide +kernel, rfl, by decide +kernel, by decide +kernel⟩
/-- the defs of safety -/
structure SafetyAt (K : PySem.W.Frag) (mg : Str → Option Value) (f9 f10 f11 f12 f13 f14 : Addr) (d9 d10 d11 d12 d13 d14 : FuncData) : Prop where
  sm : DefAt K mg "safe_moves_from" sSafeMoves ["place_count", "channels", "state"] f9 d9
  sf : DefAt K mg "safe_states" sSafe ["place_count", "channels"] f10 d10
  st : DefAt K mg "states_that_can_stay" sStay ["channels", "states"] f11 d11
  mi : DefAt K mg "moves_into" sInto ["channels", "state", "states"] f12 d12
  os : DefAt K mg "open_states" sOStates ["place_count", "channels"] f13 d13
  oa : DefAt K mg "open_ages" sOAges ["channels"] f14 d14
theorem ok_safe {f2 f3 f4 f5 f6 f7 f9 f10 f11 f12 f13 f14 : Addr} {d2 d3 d4 d5 d6 d7 d9 d10 d11 d12 d13 d14 : FuncData} {k : Nat}
    (Z : SafetyAt K mg f9 f10 f11 f12 f13 f14 d9 d10 d11 d12 d13 d14) (M : MovesAt K mg f2 f3 f4 f5 f6 f7 d2 d3 d4 d5 d6 d7) (T : Txt K mg CC CI CR) :
    FnOk P w K mg base CX0 (k + 6) f10 d10 ["place_count", "channels"] (spSafe w CC) := by
  have GS : FnOk P w K mg base CX0 (k + 5) f11 d11 ["channels", "states"] (spStay w CC) := ok_stay Z.st.F Z.mi M T
  have GO : FnOk P w K mg base CX0 (k + 5) f13 d13 ["place_count", "channels"] (spOStates w CC) := ok_ostates (k := k + 3) Z.os.F T Z.oa
  refine Z.sf.F.ok scSafe (fun vs H Q E h => ?_) (fun cdv A outer s H vs Q E hr h => ?_)
  · obtain ⟨n, l, cs, rfl, _⟩ := h
    rfl
  · obtain ⟨n, l, cs, rfl, hC, ⟨h3, hn, hm⟩, q⟩ := h
    have nd := scSafe.nd
    refine ⟨_, pss_cons (ps_set (i := 2) nd rfl (.inl rfl) (pe_fn Z.os GO hr (by rfl) (pa_cons (pv 0) (pa_cons (pv 1) pa_nil))))
      (pss_one (ps_while PassesOwn.never (pt_val pe_bl)
        (pss_cons (ps_set (i := 3) nd rfl (.inl rfl) (pe_fn Z.st GS hr (by rfl) (pa_cons (pv 1) (pa_cons (pv 2) pa_nil))))
        (pss_cons (ps_if (pt_cmpR op_eq (pe_callB call_slen (by rfl) T.bLen PySem.boot_len (pa_cons (pv 3) pa_nil)) (pe_callB call_slen (by rfl) T.bLen PySem.boot_len (pa_cons (pv 2) pa_nil)) (nomark _))
          (pss_one (ps_ret (pv 3))) pss_nil)
        (pss_one (ps_set (i := 2) nd rfl (.inl rfl) (pv 3))))))), ?_⟩
    refine ⟨_, rfl, _, rfl, n, l, cs, rfl, hC, ⟨h3, hn, hm⟩, fun H1 d s1 nd1 hd => ?_⟩
    refine ⟨fun m σ H' => ∃ d y3 S, σ = [some (.int n), some (.ref l), some (.ref d), y3] ∧ Same H H' ∧ H d = none ∧ Dct w H' d S ∧ m = S.length ∧ fixS cs (S.length + 1) S = safeSt n cs ∧ (S.Nodup ∧ S.length ≤ 256 ∧ ∀ s ∈ S, s.2.length = cs.length),
      ⟨_, d, none, openStates n cs, rfl, s1, nd1, hd, rfl, rfl, openStates_nodup n cs, openStates_few hm h3 hn, fun s hs => (openStates_all hs).1⟩, ?_⟩
    rintro m σ H2 ⟨d, y3, S, rfl, s2, nd2, hd2, rfl, efix, nodS, fewS, all⟩
    refine ⟨true, rfl, iteT ?_⟩
    refine ⟨fun σ H' => ∃ d y3 S', σ = [some (.int n), some (.ref l), some (.ref d), y3] ∧ Same H H' ∧ H d = none ∧ Dct w H' d S' ∧ S'.length < S.length ∧ fixS cs (S'.length + 1) S' = safeSt n cs ∧ (S'.Nodup ∧ S'.length ≤ 256 ∧ ∀ s ∈ S', s.2.length = cs.length), ?_, ?_⟩
    · rintro σ' H' ⟨d', y3', S', e1, e2, e3, e4, e5, e6, e7⟩
      exact ⟨_, e5, d', y3', S', e1, e2, e3, e4, rfl, e6, e7⟩
    · refine ⟨_, rfl, _, rfl, l, d, cs, S, rfl, ⟨hC.same s2, hd2⟩, ⟨h3, nodS, fewS, all⟩, fun H3 c s3 nc hc => ?_⟩
      obtain ⟨xs, hdx, ksx, ex⟩ := hd2.same s3
      obtain ⟨ys, hcy, ksy, ey⟩ := id hc
      have lx : xs.length = S.length := by
        have := congrArg List.length ex
        rwa [List.length_map, List.length_map] at this
      have ly : ys.length = (stay cs S).length := by
        have := congrArg List.length ey
        rwa [List.length_map, List.length_map] at this
      refine ⟨_, rfl, c, ys, rfl, .inl hcy, ksy, _, rfl, d, xs, rfl, .inl hdx, ksx, rfl, _, rfl, ?_⟩
      rw [nat_eq]
      refine ifB (fun t => ?_) (fun t => ?_)
      · have e : (stay cs S).length = S.length := by
          have := of_decide_eq_true t
          omega
        refine ⟨_, rfl, q H3 c (s2.trans s3) (s2.free nc) ?_⟩
        rw [← efix, fix_eq e]
        exact hc
      · have e : ¬ (stay cs S).length = S.length := by
          have := of_decide_eq_false t
          omega
        refine ⟨_, rfl, c, _, stay cs S, rfl, s2.trans s3, s2.free nc, hc, stay_lt e, ?_, nodS.sublist List.filter_sublist, Nat.le_trans (stay_len _ _) fewS, fun s hs => all s (stay_sub hs)⟩
        rw [← efix, fix_ne e]
        exact (fix_fuel cs _ _ (stay_lt e)).symm
/-! ### safe_moves_from -/
def spSafeMoves (w : World) (CC : Addr) : Sp := fun vs H Q _ => ∃ (n : Nat) (l t : Addr) (cs : List Ch) (s : Sta), vs = [.int (n : Int), .ref l, .ref t] ∧ (Chs CC H l cs ∧ StAt H t s) ∧ (cs.length ≤ 3 ∧ n ≤ 4 ∧ (∀ c ∈ cs, c.m ≤ 3) ∧ s.2.length = cs.length) ∧
  ∀ H' q, Same H H' → H q = none → H' q = some (.lst (nints (safeMoves n cs s))) → Q (.ref q) H'
theorem scSafeMoves : FnScope ["place_count", "channels", "state", "safe"] ["place_count", "channels", "state"] (defScope sSafeMoves) := ⟨rfl, rfl, rfl, by decide +kernel, rfl, by decide +kernel, by decide +kernel⟩
theorem ok_safeMoves {f2 f3 f4 f5 f6 f7 f9 f10 f11 f12 f13 f14 : Addr} {d2 d3 d4 d5 d6 d7 d9 d10 d11 d12 d13 d14 : FuncData} {k : Nat}
    (Z : SafetyAt K mg f9 f10 f11 f12 f13 f14 d9 d10 d11 d12 d13 d14) (M : MovesAt K mg f2 f3 f4 f5 f6 f7 d2 d3 d4 d5 d6 d7) (T : Txt K mg CC CI CR) :
    FnOk P w K mg base CX0 (k + 7) f9 d9 ["place_count", "channels", "state"] (spSafeMoves w CC) := by
  have GS : FnOk P w K mg base CX0 (k + 6) f10 d10 ["place_count", "channels"] (spSafe w CC) := ok_safe Z M T
  have GI : FnOk P w K mg base CX0 (k + 6) f12 d12 ["channels", "state", "states"] (spInto w CC) := ok_into (k := k + 2) Z.mi.F M T
  refine Z.sm.F.ok scSafeMoves (fun vs H Q E h => ?_) (fun cdv A outer s H vs Q E hr h => ?_)
  · obtain ⟨n, l, t, cs, s, rfl, _⟩ := h
    rfl
  · obtain ⟨n, l, t, cs, s, rfl, ⟨hC, hS⟩, ⟨h3, hn, hm, hl⟩, q⟩ := h
    refine ⟨_, pss_cons (ps_set (i := 3) scSafeMoves.nd rfl (.inl rfl) (pe_fn Z.sf GS hr (by rfl) (pa_cons (pv 0) (pa_cons (pv 1) pa_nil))))
      (pss_one (ps_ret (pe_fn Z.mi GI hr (by rfl) (pa_cons (pv 1) (pa_cons (pv 2) (pa_cons (pv 3) pa_nil)))))), ?_⟩
    refine ⟨_, rfl, _, rfl, n, l, cs, rfl, hC, ⟨h3, hn, hm⟩, fun H1 d s1 nd1 hd => ?_⟩
    refine ⟨_, rfl, _, rfl, _, rfl, l, t, d, cs, s, safeSt n cs, rfl, ⟨hC.same s1, hS.same s1, hd.rd⟩, ⟨hl, h3⟩, fun H2 v s2 nv hv => ?_⟩
    exact q H2 v (s1.trans s2) (s1.free nv) hv
end
end OL
/-! The mirror and the specification: moves and safe states. -/
namespace OL
open Km558
abbrev KCh := Km558.Channel
def chOf (c : KCh) : Ch := ⟨c.endA, c.endB, c.maxAge⟩
def chs (A : Area) : List Ch := A.channels.map chOf
/-- what the document lets a state of the instance be -/
structure Fit (A : Area) : Prop where
  pc : A.placeCount ≤ 4
  few : A.channels.length ≤ 3
  ends : ∀ c ∈ A.channels, c.endA < 4 ∧ c.endB < 4 ∧ c.maxAge ≤ 3
theorem chs_len (A : Area) : (chs A).length = channelCount A := List.length_map _
theorem get_ch {A : Area} {i : Nat} (h : i < channelCount A) : getChannel A i = A.channels[i]'h := by
  unfold getChannel
  rw [List.getD_eq_getElem?_getD, List.getElem?_eq_getElem h]
  rfl
theorem chs_get {A : Area} {i : Nat} (h : i < channelCount A) : (chs A)[i]'(by rw [chs_len]; exact h) = chOf (getChannel A i) := by
  rw [get_ch h]
  exact List.getElem_map _
theorem chs_getD {A : Area} {i : Nat} (h : i < channelCount A) : (chs A).getD i default = chOf (getChannel A i) := by
  rw [List.getD_eq_getElem?_getD, List.getElem?_eq_getElem (by rw [chs_len]; exact h), ← chs_get h]
  rfl
/-! ### the moves -/
theorem availUp_range (f : Nat → Ch) (p : Nat) : ∀ (n i : Nat), availUp ((List.range' i n).map f) p i = ((List.range' i n).filter fun j => atEnd (f j) p).map (· + 1)
  | 0, i => rfl
  | n + 1, i => by
    rw [List.range'_succ, List.map_cons, List.filter_cons]
    show (if atEnd (f i) p = true then (i + 1) :: availUp _ p (i + 1) else availUp _ p (i + 1)) = _
    rw [availUp_range f p n (i + 1)]
    split <;> rfl
theorem chs_range (A : Area) : chs A = (List.range (channelCount A)).map fun i => chOf (getChannel A i) := by
  refine List.ext_getElem (by rw [chs_len, List.length_map, List.length_range]) fun i h1 h2 => ?_
  rw [chs_len] at h1
  rw [chs_get h1, List.getElem_map, List.getElem_range]
theorem avail_spec (A : Area) (p : Nat) : availableMoves A p = avail (chs A) p := by
  unfold availableMoves avail
  rw [chs_range, List.range_eq_range', List.range_eq_range', availUp_range, List.range'_succ, List.filter_cons]
  rw [if_pos (by simp)]
  congr 1
  have shift : ∀ (n i : Nat) (P : Nat → Bool), (List.range' (i + 1) n).filter P = ((List.range' i n).filter fun j => P (j + 1)).map (· + 1) := by
    intro n
    induction n with
    | zero => intro i P; rfl
    | succ n ih =>
      intro i P
      rw [List.range'_succ, List.range'_succ, List.filter_cons, List.filter_cons, ih]
      split <;> rfl
  rw [shift]
  congr 1
  refine List.filter_congr fun j _ => ?_
  unfold atEnd chOf
  have h0 : (j + 1 == 0) = false := rfl
  rw [h0, Bool.false_or, Nat.add_sub_cancel]
  by_cases h1 : (getChannel A j).endA = p
  · rw [h1]
    simp
  · by_cases h2 : (getChannel A j).endB = p
    · rw [h2]
      simp
    · have e1 : ((getChannel A j).endA == p) = false := beq_eq_false_iff_ne.mpr h1
      have e2 : ((getChannel A j).endB == p) = false := beq_eq_false_iff_ne.mpr h2
      rw [e1, e2, decide_eq_false (fun e => h1 e.symm), decide_eq_false (fun e => h2 e.symm)]
def snap (s : Sta) : Snapshot := ⟨s.1, s.2⟩
theorem after_spec {A : Area} {s : Sta} {m : Nat} (hl : s.2.length = channelCount A) (hm : m ≤ channelCount A) : afterMove A (snap s) m = snap (after (chs A) s m) := by
  unfold afterMove after snap
  by_cases h : m = 0
  · subst h
    rw [if_pos rfl, if_pos rfl]
    refine congrArg (Snapshot.mk _) (List.ext_getElem (by rw [List.length_map, List.length_range, List.length_map, hl]) fun i h1 h2 => ?_)
    rw [List.getElem_map, List.getElem_range, List.getElem_map, if_neg (by omega)]
    rw [List.getD_eq_getElem?_getD, List.getElem?_eq_getElem (by rw [List.length_map] at h2; exact h2)]
    rfl
  · rw [if_neg h, if_neg h]
    have hi : m - 1 < channelCount A := by omega
    have e1 : otherEnd (getChannel A (m - 1)) s.1 = other ((chs A).getD (m - 1) default) s.1 := by
      rw [chs_getD hi]
      unfold otherEnd other chOf
      by_cases e : (getChannel A (m - 1)).endA = s.1
      · rw [if_pos e, if_pos e.symm]
      · rw [if_neg e, if_neg fun z => e z.symm]
    show Snapshot.mk (otherEnd (getChannel A (m - 1)) s.1) _ = Snapshot.mk (other ((chs A).getD (m - 1) default) s.1) _
    rw [e1]
    refine congrArg (Snapshot.mk _) (List.ext_getElem (by rw [List.length_map, List.length_range, List.length_set, List.length_map, hl]) fun i h1 h2 => ?_)
    rw [List.getElem_map, List.getElem_range, List.getElem_set]
    rw [List.length_set, List.length_map] at h2
    by_cases e : m = i + 1
    · rw [if_pos e, if_pos (by omega)]
    · rw [if_neg e, if_neg (by omega), List.getElem_map]
      show s.2.getD i 0 + 1 = _
      rw [List.getD_eq_getElem?_getD, List.getElem?_eq_getElem h2]
      rfl
theorem opens_range (f : Nat → Ch) : ∀ (l : List Nat) (i : Nat), opens ((List.range' i l.length).map f) l = (List.range l.length).all fun j => decide (l.getD j 0 ≤ (f (i + j)).m)
  | [], i => rfl
  | x :: l, i => by
    rw [List.length_cons, List.range'_succ, List.map_cons, List.range_succ_eq_map, List.all_cons, List.all_map]
    show (if (f i).m < x then false else opens _ l) = _
    rw [opens_range f l (i + 1)]
    have e0 : decide ((x :: l).getD 0 0 ≤ (f (i + 0)).m) = decide (x ≤ (f i).m) := rfl
    rw [e0]
    have e1 : ((fun j => decide ((x :: l).getD j 0 ≤ (f (i + j)).m)) ∘ Nat.succ) = fun j => decide (l.getD j 0 ≤ (f (i + 1 + j)).m) := by
      funext j
      show decide ((x :: l).getD (j + 1) 0 ≤ (f (i + (j + 1))).m) = _
      have e2 : i + (j + 1) = i + 1 + j := by omega
      rw [e2]
      rfl
    rw [e1]
    by_cases c : (f i).m < x
    · rw [if_pos c, decide_eq_false (by omega), Bool.false_and]
    · rw [if_neg c, decide_eq_true (by omega), Bool.true_and]
theorem opens_spec {A : Area} {s : Sta} (hl : s.2.length = channelCount A) : allOpen A (snap s) = opens (chs A) s.2 := by
  unfold allOpen
  rw [chs_range, List.range_eq_range', ← hl, opens_range, ← List.range_eq_range']
  refine congrArg (fun f => (List.range s.2.length).all f) (funext fun j => ?_)
  rw [Nat.zero_add]
  rfl
end OL
namespace OL
open Km558
/-! ### bit sets -/
theorem bits_fold (P : Nat → Bool) : ∀ N : Nat, (List.range N).foldl (fun (r c : Nat) => if P c = true then r + 2 ^ c else r) 0 < 2 ^ N ∧
    ∀ i, ((List.range N).foldl (fun (r c : Nat) => if P c = true then r + 2 ^ c else r) 0).testBit i = (decide (i < N) && P i)
  | 0 => ⟨Nat.one_pos, fun i => by simp⟩
  | N + 1 => by
    obtain ⟨lt, bit⟩ := bits_fold P N
    rw [List.range_succ, List.foldl_append]
    generalize hB : (List.range N).foldl (fun (r c : Nat) => if P c = true then r + 2 ^ c else r) 0 = B at lt bit
    show (if P N = true then B + 2 ^ N else B) < 2 ^ (N + 1) ∧ ∀ i, (if P N = true then B + 2 ^ N else B).testBit i = _
    have e2 : 2 ^ (N + 1) = 2 ^ N + 2 ^ N := by rw [Nat.pow_succ]; omega
    by_cases hp : P N = true
    · rw [if_pos hp]
      refine ⟨by omega, fun i => ?_⟩
      rcases Nat.lt_trichotomy i N with h | h | h
      · rw [Nat.add_comm, Nat.testBit_two_pow_add_gt h, bit, decide_eq_true h, decide_eq_true (by omega : i < N + 1)]
      · subst h
        rw [Nat.add_comm, Nat.testBit_two_pow_add_eq, bit, decide_eq_false (Nat.lt_irrefl i), decide_eq_true (Nat.lt_succ_self i), hp]
        rfl
      · rw [Nat.testBit_lt_two_pow, decide_eq_false (by omega : ¬ i < N + 1), Bool.false_and]
        have : 2 ^ (N + 1) ≤ 2 ^ i := Nat.pow_le_pow_right (by decide) (by omega)
        omega
    · rw [if_neg hp]
      refine ⟨by omega, fun i => ?_⟩
      rw [bit]
      rcases Nat.lt_trichotomy i N with h | h | h
      · rw [decide_eq_true h, decide_eq_true (by omega : i < N + 1)]
      · subst h
        rw [decide_eq_false (Nat.lt_irrefl i), decide_eq_true (Nat.lt_succ_self i), Bool.eq_false_iff.mpr hp]
        rfl
      · rw [decide_eq_false (by omega : ¬ i < N), decide_eq_false (by omega : ¬ i < N + 1)]
/-- a state that has a code -/
def Coded (k : Nat) (s : Sta) : Prop := s.1 < 4 ∧ s.2.length = k ∧ ∀ a ∈ s.2, a ≤ 3
theorem three {A : Area} (F : Fit A) : channelCount A = 0 ∨ channelCount A = 1 ∨ channelCount A = 2 ∨ channelCount A = 3 := by
  have : channelCount A ≤ 3 := F.few
  omega
theorem range_0 : List.range 0 = [] := rfl
theorem range_1 : List.range 1 = [0] := rfl
theorem range_2 : List.range 2 = [0, 1] := rfl
theorem range_3 : List.range 3 = [0, 1, 2] := rfl
theorem decode_code {A : Area} (F : Fit A) (c : Nat) (h : c < codeCount A) : ∃ s, decode A c = snap s ∧ Coded (channelCount A) s ∧ encode A (snap s) = c := by
  unfold codeCount at h
  unfold decode encode Coded snap
  rcases three F with e | e | e | e <;> rw [e] at h ⊢
  · refine ⟨(c % 4, []), rfl, ⟨by omega, rfl, fun a h => nomatch h⟩, ?_⟩
    have h : c < 4 := h
    show 0 * 4 + c % 4 = c
    omega
  · refine ⟨(c % 4, [c / 4 / 4 ^ 0 % 4]), rfl, ⟨by omega, rfl, fun a h => ?_⟩, ?_⟩
    · rw [List.mem_singleton.mp h]
      omega
    · have h : c < 4 * 4 ^ 1 := h
      show (0 * (3 + 1) + c / 4 / 4 ^ 0 % 4) * 4 + c % 4 = c
      omega
  · refine ⟨(c % 4, [c / 4 / 4 ^ 0 % 4, c / 4 / 4 ^ 1 % 4]), rfl, ⟨by omega, rfl, fun a h => ?_⟩, ?_⟩
    · simp only [List.mem_cons, List.not_mem_nil, or_false] at h
      omega
    · have h : c < 4 * 4 ^ 2 := h
      show ((0 * (3 + 1) + c / 4 / 4 ^ 1 % 4) * (3 + 1) + c / 4 / 4 ^ 0 % 4) * 4 + c % 4 = c
      omega
  · refine ⟨(c % 4, [c / 4 / 4 ^ 0 % 4, c / 4 / 4 ^ 1 % 4, c / 4 / 4 ^ 2 % 4]), rfl, ⟨by omega, rfl, fun a h => ?_⟩, ?_⟩
    · simp only [List.mem_cons, List.not_mem_nil, or_false] at h
      omega
    · have h : c < 4 * 4 ^ 3 := h
      show (((0 * (3 + 1) + c / 4 / 4 ^ 2 % 4) * (3 + 1) + c / 4 / 4 ^ 1 % 4) * (3 + 1) + c / 4 / 4 ^ 0 % 4) * 4 + c % 4 = c
      omega
theorem code_lt {A : Area} (F : Fit A) {s : Sta} (h : Coded (channelCount A) s) : encode A (snap s) < codeCount A ∧ decode A (encode A (snap s)) = snap s := by
  obtain ⟨p, l⟩ := s
  obtain ⟨h1, h2, h3⟩ := h
  have h1 : p < 4 := h1
  have h2 : l.length = channelCount A := h2
  unfold codeCount decode encode snap
  rcases three F with e | e | e | e <;> rw [e] at h2 ⊢
  · obtain rfl : l = [] := List.eq_nil_of_length_eq_zero h2
    show 0 * 4 + p < 4 * 4 ^ 0 ∧ Snapshot.mk ((0 * 4 + p) % 4) [] = Snapshot.mk p []
    refine ⟨by omega, ?_⟩
    rw [show (0 * 4 + p) % 4 = p by omega]
  · match l, h2 with
    | [x], _ =>
      have hx : x ≤ 3 := h3 x List.mem_cons_self
      show (0 * (3 + 1) + x) * 4 + p < 4 * 4 ^ 1 ∧ Snapshot.mk (((0 * (3 + 1) + x) * 4 + p) % 4) [((0 * (3 + 1) + x) * 4 + p) / 4 / 4 ^ 0 % 4] = Snapshot.mk p [x]
      refine ⟨by omega, ?_⟩
      rw [show ((0 * (3 + 1) + x) * 4 + p) % 4 = p by omega, show ((0 * (3 + 1) + x) * 4 + p) / 4 / 4 ^ 0 % 4 = x by omega]
  · match l, h2 with
    | [x, y], _ =>
      have hx : x ≤ 3 := h3 x (by simp)
      have hy : y ≤ 3 := h3 y (by simp)
      generalize hc : ((0 * (3 + 1) + y) * (3 + 1) + x) * 4 + p = c
      show ((0 * (3 + 1) + y) * (3 + 1) + x) * 4 + p < 4 * 4 ^ 2 ∧ Snapshot.mk ((((0 * (3 + 1) + y) * (3 + 1) + x) * 4 + p) % 4) [(((0 * (3 + 1) + y) * (3 + 1) + x) * 4 + p) / 4 / 4 ^ 0 % 4, (((0 * (3 + 1) + y) * (3 + 1) + x) * 4 + p) / 4 / 4 ^ 1 % 4] = Snapshot.mk p [x, y]
      rw [hc]
      refine ⟨by omega, ?_⟩
      rw [show c % 4 = p by omega, show c / 4 / 4 ^ 0 % 4 = x by omega, show c / 4 / 4 ^ 1 % 4 = y by omega]
  · match l, h2 with
    | [x, y, z], _ =>
      have hx : x ≤ 3 := h3 x (by simp)
      have hy : y ≤ 3 := h3 y (by simp)
      have hz : z ≤ 3 := h3 z (by simp)
      generalize hc : (((0 * (3 + 1) + z) * (3 + 1) + y) * (3 + 1) + x) * 4 + p = c
      show (((0 * (3 + 1) + z) * (3 + 1) + y) * (3 + 1) + x) * 4 + p < 4 * 4 ^ 3 ∧ Snapshot.mk (((((0 * (3 + 1) + z) * (3 + 1) + y) * (3 + 1) + x) * 4 + p) % 4) [((((0 * (3 + 1) + z) * (3 + 1) + y) * (3 + 1) + x) * 4 + p) / 4 / 4 ^ 0 % 4, ((((0 * (3 + 1) + z) * (3 + 1) + y) * (3 + 1) + x) * 4 + p) / 4 / 4 ^ 1 % 4, ((((0 * (3 + 1) + z) * (3 + 1) + y) * (3 + 1) + x) * 4 + p) / 4 / 4 ^ 2 % 4] = Snapshot.mk p [x, y, z]
      rw [hc]
      refine ⟨by omega, ?_⟩
      rw [show c % 4 = p by omega, show c / 4 / 4 ^ 0 % 4 = x by omega, show c / 4 / 4 ^ 1 % 4 = y by omega, show c / 4 / 4 ^ 2 % 4 = z by omega]
end OL
namespace OL
open Km558
/-! ### what is open -/
theorem opens_snoc : ∀ (cs : List Ch) (l : List Nat) (c : Ch) (n : Nat), l.length = cs.length → opens (cs ++ [c]) (l ++ [n]) = (opens cs l && decide (n ≤ c.m))
  | [], [], c, n, _ => by
    show (if c.m < n then false else true) = (true && decide (n ≤ c.m))
    by_cases h : c.m < n
    · rw [if_pos h, decide_eq_false (by omega), Bool.and_false]
    · rw [if_neg h, decide_eq_true (by omega), Bool.and_true]
  | d :: cs, x :: l, c, n, h => by
    have ih := opens_snoc cs l c n (by simpa using h)
    show (if d.m < x then false else opens (cs ++ [c]) (l ++ [n])) = ((if d.m < x then false else opens cs l) && decide (n ≤ c.m))
    rw [ih]
    split <;> rfl
  | [], x :: l, c, n, h => by simp at h
  | d :: cs, [], c, n, h => by simp at h
theorem snoc_of : ∀ {l : List Nat} {k : Nat}, l.length = k + 1 → ∃ x n, l = x ++ [n] ∧ x.length = k := by
  intro l k h
  have hne : l ≠ [] := fun e => by rw [e] at h; simp at h
  refine ⟨l.dropLast, l.getLast hne, (List.dropLast_concat_getLast hne).symm, ?_⟩
  rw [List.length_dropLast, h]
  omega
theorem mem_openAges (cs : List Ch) : ∀ l, l ∈ openAges cs ↔ l.length = cs.length ∧ opens cs l = true := by
  refine snoc_ind (p := fun cs => ∀ l, l ∈ openAges cs ↔ l.length = cs.length ∧ opens cs l = true) ?_ ?_ cs
  · intro l
    constructor
    · intro h
      rw [List.mem_singleton.mp h]
      exact ⟨rfl, rfl⟩
    · rintro ⟨h, _⟩
      rw [List.eq_nil_of_length_eq_zero h]
      exact List.mem_singleton.mpr rfl
  · intro cs c ih l
    rw [openAges_snoc, List.mem_flatMap]
    constructor
    · rintro ⟨x, hx, hl⟩
      obtain ⟨n, hn, rfl⟩ := mem_longer.mp hl
      obtain ⟨h1, h2⟩ := (ih x).mp hx
      rw [opens_snoc cs x c n h1, h2, decide_eq_true hn, List.length_append, List.length_append, h1]
      exact ⟨rfl, rfl⟩
    · rintro ⟨h1, h2⟩
      rw [List.length_append] at h1
      obtain ⟨x, n, rfl, hx⟩ := snoc_of h1
      rw [opens_snoc cs x c n hx, Bool.and_eq_true] at h2
      exact ⟨x, (ih x).mpr ⟨hx, h2.1⟩, mem_longer.mpr ⟨n, of_decide_eq_true h2.2, rfl⟩⟩
theorem mem_openStates {n : Nat} {cs : List Ch} {s : Sta} : s ∈ openStates n cs ↔ s.1 < n ∧ s.2.length = cs.length ∧ opens cs s.2 = true := by
  unfold openStates
  rw [List.mem_flatMap]
  constructor
  · rintro ⟨l, hl, hs⟩
    obtain ⟨p, hp, rfl⟩ := List.mem_map.mp hs
    exact ⟨List.mem_range.mp hp, (mem_openAges cs l).mp hl⟩
  · rintro ⟨h1, h2⟩
    exact ⟨s.2, (mem_openAges cs s.2).mpr h2, List.mem_map.mpr ⟨s.1, List.mem_range.mpr h1, rfl⟩⟩
theorem opens_small : ∀ {cs : List Ch} {l : List Nat}, (∀ c ∈ cs, c.m ≤ 3) → l.length = cs.length → opens cs l = true → ∀ a ∈ l, a ≤ 3
  | [], [], _, _, _, a, ha => nomatch ha
  | [], _ :: _, _, h, _, _, _ => by simp at h
  | _ :: _, [], _, _, _, a, ha => nomatch ha
  | c :: cs, x :: l, hm, hl, ho, a, ha => by
    have ho : (if c.m < x then false else opens cs l) = true := ho
    have h3 := hm c List.mem_cons_self
    by_cases h : c.m < x
    · rw [if_pos h] at ho
      cases ho
    · rw [if_neg h] at ho
      rcases List.mem_cons.mp ha with e | ha
      · omega
      · exact opens_small (fun d hd => hm d (List.mem_cons_of_mem _ hd)) (by simpa using hl) ho a ha
theorem Fit.m {A : Area} (F : Fit A) : ∀ c ∈ chs A, c.m ≤ 3 := fun c hc => by
  obtain ⟨k, hk, rfl⟩ := List.mem_map.mp hc
  exact (F.ends k hk).2.2
theorem Fit.after {A : Area} (F : Fit A) {s : Sta} {m : Nat} (h1 : s.1 < 4) : (after (chs A) s m).1 < 4 := by
  unfold OL.after
  split
  · exact h1
  · show other _ _ < 4
    unfold other
    rw [List.getD_eq_getElem?_getD]
    cases e : (chs A)[m - 1]? with
    | none =>
      show (if s.1 = (default : Ch).a then (default : Ch).b else (default : Ch).a) < 4
      split <;> decide
    | some c =>
      have hc := List.mem_of_getElem? e
      obtain ⟨k, hk, rfl⟩ := List.mem_map.mp hc
      have := F.ends k hk
      show (if s.1 = k.endA then k.endB else k.endA) < 4
      split <;> omega
/-! ### the fixed points go together -/
structure Rel (A : Area) (S : List Sta) (B : Nat) : Prop where
  bit : ∀ s, Coded (channelCount A) s → B.testBit (encode A (snap s)) = decide (s ∈ S)
  top : ∀ i, codeCount A ≤ i → B.testBit i = false
  mem : ∀ s ∈ S, Coded (channelCount A) s
theorem Rel.inj {A : Area} (F : Fit A) {S : List Sta} {B C : Nat} (h1 : Rel A S B) (h2 : Rel A S C) : B = C := by
  refine Nat.eq_of_testBit_eq fun i => ?_
  by_cases h : i < codeCount A
  · obtain ⟨s, _, hs, e⟩ := decode_code F i h
    rw [← e, h1.bit s hs, h2.bit s hs]
  · rw [h1.top i (by omega), h2.top i (by omega)]
theorem isEmpty_filter {α : Type} (l : List α) (p q : α → Bool) : (!((l.filter p).filter q).isEmpty) = l.any fun x => p x && q x := by
  rw [List.filter_filter]
  induction l with
  | nil => rfl
  | cons x l ih =>
    rw [List.filter_cons, List.any_cons]
    have e : (q x && p x) = (p x && q x) := Bool.and_comm _ _
    split
    · rename_i h
      rw [e] at h
      rw [h]
      rfl
    · rename_i h
      rw [e] at h
      rw [Bool.eq_false_iff.mpr h, ih, Bool.false_or]
theorem any_congr {α : Type} {l : List α} {p q : α → Bool} (h : ∀ x ∈ l, p x = q x) : l.any p = l.any q := by
  induction l with
  | nil => rfl
  | cons x l ih => rw [List.any_cons, List.any_cons, h x List.mem_cons_self, ih fun y hy => h y (List.mem_cons_of_mem _ hy)]
theorem stay_any {A : Area} (F : Fit A) {S : List Sta} {B : Nat} (R : Rel A S B) {s : Sta} (hs : Coded (channelCount A) s) :
    ((availableMoves A (snap s).place).any fun m => allOpen A (afterMove A (snap s) m) && B.testBit (encode A (afterMove A (snap s) m))) = canStay (chs A) S s := by
  unfold canStay into legal
  rw [isEmpty_filter, avail_spec]
  refine any_congr fun m hm => ?_
  have hle : m ≤ channelCount A := by rw [← chs_len]; exact avail_le hm
  have hl := hs.2.1
  rw [after_spec hl hle, opens_spec (by rw [after_len]; exact hl)]
  by_cases ho : opens (chs A) (after (chs A) s m).2 = true
  · rw [ho, Bool.true_and, Bool.true_and]
    exact R.bit _ ⟨F.after hs.1, by rw [after_len]; exact hl, opens_small F.m (by rw [after_len, hl, chs_len]) ho⟩
  · rw [Bool.eq_false_iff.mpr ho, Bool.false_and, Bool.false_and]
theorem rel_step {A : Area} (F : Fit A) {S : List Sta} {B : Nat} (R : Rel A S B) : Rel A (stay (chs A) S) (withSuccessor A B) := by
  have bits := (bits_fold (fun code => B.testBit code && (availableMoves A (decode A code).place).any fun m => allOpen A (afterMove A (decode A code) m) && B.testBit (encode A (afterMove A (decode A code) m))) (codeCount A)).2
  refine ⟨fun s hs => ?_, fun i hi => ?_, fun s hs => R.mem s (stay_sub hs)⟩
  · obtain ⟨lt, dec⟩ := code_lt F hs
    refine (bits (encode A (snap s))).trans ?_
    rw [decide_eq_true lt, Bool.true_and, dec, stay_any F R hs, R.bit s hs]
    unfold stay
    by_cases h1 : s ∈ S
    · by_cases h2 : canStay (chs A) S s = true
      · rw [h2, decide_eq_true h1, decide_eq_true (List.mem_filter.mpr ⟨h1, h2⟩)]
        rfl
      · rw [Bool.eq_false_iff.mpr h2, Bool.and_false, decide_eq_false fun z => h2 (List.mem_filter.mp z).2]
    · rw [decide_eq_false h1, Bool.false_and, decide_eq_false fun z => h1 (List.mem_filter.mp z).1]
  · refine (bits i).trans ?_
    rw [decide_eq_false (by omega), Bool.false_and]
theorem rel_same {A : Area} (F : Fit A) {S : List Sta} {B : Nat} (R : Rel A S B) : (stay (chs A) S).length = S.length ↔ withSuccessor A B = B := by
  constructor
  · intro h
    have R2 := rel_step F R
    rw [stay_all h] at R2
    exact R2.inj F R
  · intro h
    have R2 := rel_step F R
    rw [h] at R2
    have : stay (chs A) S = S := by
      unfold stay
      rw [List.filter_eq_self]
      intro s hs
      have c := R.mem s hs
      have e := (R2.bit s c).symm.trans (R.bit s c)
      rw [decide_eq_true hs] at e
      exact (List.mem_filter.mp (of_decide_eq_true e)).2
    rw [this]
theorem rel_fix {A : Area} (F : Fit A) : ∀ (k f : Nat) (S : List Sta) (B : Nat), Rel A S B → S.length < k → S.length ≤ f → Rel A (fixS (chs A) k S) (greatestFixedPoint A f B)
  | 0, _, _, _, _, h, _ => absurd h (Nat.not_lt_zero _)
  | k + 1, f, S, B, R, h1, h2 => by
    by_cases e : (stay (chs A) S).length = S.length
    · have e2 := (rel_same F R).mp e
      rw [fix_eq e, stay_all e]
      cases f with
      | zero => exact R
      | succ f =>
        show Rel A S (if withSuccessor A B = B then B else greatestFixedPoint A f (withSuccessor A B))
        rw [if_pos e2]
        exact R
    · have e2 : ¬ withSuccessor A B = B := fun z => e ((rel_same F R).mpr z)
      have lt := stay_lt e
      cases f with
      | zero => omega
      | succ f =>
        rw [fix_ne e]
        show Rel A _ (if withSuccessor A B = B then B else greatestFixedPoint A f (withSuccessor A B))
        rw [if_neg e2]
        exact rel_fix F k f _ _ (rel_step F R) (by omega) (by omega)
theorem rel_open {A : Area} (F : Fit A) : Rel A (openStates A.placeCount (chs A)) (openCodes A) := by
  have bits := (bits_fold (fun code => isOpenCode A code) (codeCount A)).2
  refine ⟨fun s hs => ?_, fun i hi => ?_, fun s hs => ?_⟩
  · obtain ⟨lt, dec⟩ := code_lt F hs
    refine (bits (encode A (snap s))).trans ?_
    rw [decide_eq_true lt, Bool.true_and]
    unfold isOpenCode
    have ep : encode A (snap s) % maxPlaces = s.1 := congrArg Snapshot.place dec
    rw [dec, ep, opens_spec hs.2.1]
    by_cases h : s ∈ openStates A.placeCount (chs A)
    · obtain ⟨h1, _, h3⟩ := mem_openStates.mp h
      rw [decide_eq_true h, decide_eq_true h1, h3]
      rfl
    · rw [decide_eq_false h]
      by_cases h1 : s.1 < A.placeCount
      · rw [decide_eq_true h1, Bool.true_and]
        refine Bool.eq_false_iff.mpr fun h3 => h (mem_openStates.mpr ⟨h1, by rw [hs.2.1, chs_len], h3⟩)
      · rw [decide_eq_false h1, Bool.false_and]
  · refine (bits i).trans ?_
    rw [decide_eq_false (by omega), Bool.false_and]
  · obtain ⟨h1, h2, h3⟩ := mem_openStates.mp hs
    have := F.pc
    exact ⟨by omega, by rw [h2, chs_len], opens_small F.m h2 h3⟩
theorem rel_safe {A : Area} (F : Fit A) : Rel A (safeSt A.placeCount (chs A)) (safeCodes A) := by
  refine rel_fix F _ _ _ _ (rel_open F) (Nat.lt_succ_self _) ?_
  rw [openStates_len]
  unfold codeCount
  have h1 := openAges_len (chs A) F.m
  rw [chs_len] at h1
  rw [Nat.mul_comm]
  exact Nat.mul_le_mul F.pc h1
theorem safe_opens {n : Nat} {cs : List Ch} {s : Sta} (h : s ∈ safeSt n cs) : s.1 < n ∧ s.2.length = cs.length ∧ opens cs s.2 = true := mem_openStates.mp (fix_sub cs _ _ s h)
/-- the specification's safe snapshots are the mirror's safe states -/
theorem isSafe_spec {A : Area} (F : Fit A) {s : Sta} (hp : s.1 < A.placeCount) (hl : s.2.length = channelCount A) :
    isSafe A (safeCodes A) (snap s) = decide (s ∈ safeSt A.placeCount (chs A)) := by
  unfold isSafe
  rw [opens_spec hl]
  by_cases ho : opens (chs A) s.2 = true
  · rw [ho, Bool.true_and]
    have := F.pc
    exact (rel_safe F).bit s ⟨by omega, hl, opens_small F.m (by rw [hl, chs_len]) ho⟩
  · rw [Bool.eq_false_iff.mpr ho, Bool.false_and, decide_eq_false fun z => ho (safe_opens z).2.2]
end OL
/-! The operations as plain functions over what an instance holds. -/
namespace OL
/-- what an instance holds: the ages stand apart from the channels -/
structure Ins where
  pc : Nat
  cs : List Ch
  ag : List Nat
  pl : Nat
  he : Nat
  deriving Inhabited
def Ins.st (I : Ins) : Sta := (I.pl, I.ag)
structure Ok (I : Ins) : Prop where
  pc : I.pc ≤ 4
  few : I.cs.length ≤ 3
  len : I.ag.length = I.cs.length
  ch : ∀ c ∈ I.cs, c.a < I.pc ∧ c.b < I.pc ∧ 1 ≤ c.m ∧ c.m ≤ 3
  pl : I.pl < I.pc
  op : opens I.cs I.ag = true
abbrev Res := Ins × List Int
def zs (l : List Nat) : List Int := l.map fun n : Nat => (n : Int)
def lres (l : List Nat) : List Int := (l.length : Int) :: zs l
def b01 (b : Bool) : List Int := [if b = true then 1 else 0]
def chAt (I : Ins) (i : Nat) : Ch := I.cs.getD i default
def sf (I : Ins) : Bool := decide (I.st ∈ safeSt I.pc I.cs)
def setM (I : Ins) (i m : Nat) : Ins := { I with cs := I.cs.set i { chAt I i with m := m }, ag := I.ag.set i (min (I.ag.getD i 0) m) }
def moved (I : Ins) (m : Nat) : Ins := { I with pl := (after I.cs I.st m).1, ag := (after I.cs I.st m).2, he := I.he + 1 }
def told (I : Ins) : List Int := (I.pl : Int) :: zs I.ag
def smallest (cs : List Ch) : Sta → List (List Sta) → List Nat
  | _, [] => []
  | s, G :: r => (into cs s G).headD 0 :: smallest cs (after cs s ((into cs s G).headD 0)) r
def lv (n : Nat) (cs : List Ch) : Nat → List Sta
  | 0 => openStates n cs
  | k + 1 => stay cs (lv n cs k)
/-- the last level first -/
def lvs (n : Nat) (cs : List Ch) : Nat → List (List Sta)
  | 0 => []
  | k + 1 => lv n cs k :: lvs n cs k
def oAdd (I : Ins) (a b m : Nat) : Res :=
  if I.pc ≤ a ∨ I.pc ≤ b then (I, [-2]) else if a = b ∨ m = 0 ∨ 3 < m then (I, [-22]) else if 3 ≤ I.cs.length then (I, [-28])
  else ({ I with cs := I.cs ++ [⟨a, b, m⟩], ag := I.ag ++ [0] }, [(I.cs.length : Int)])
def oRemove (I : Ins) (i : Nat) : Res :=
  if I.cs.length ≤ i then (I, [-2]) else ({ I with cs := I.cs.eraseIdx i, ag := I.ag.eraseIdx i }, [((I.cs.length - 1 : Nat) : Int)])
def oSetMax (I : Ins) (i m : Nat) : Res :=
  if I.cs.length ≤ i then (I, [-2]) else if m = 0 ∨ 3 < m then (I, [-22]) else (setM I i m, [((chAt I i).m : Int)])
def oSetPos (I : Ins) (p : Nat) : Res := if I.pc ≤ p then (I, [-2]) else ({ I with pl := p }, [(I.pl : Int)])
def oSetAge (I : Ins) (i a : Nat) : Res :=
  if I.cs.length ≤ i then (I, [-2]) else if (chAt I i).m < a then (I, [-22]) else ({ I with ag := I.ag.set i a }, [(I.ag.getD i 0 : Nat)])
def oReset (I : Ins) : Res := ({ I with ag := List.replicate I.cs.length 0, he := 0 }, [(I.he : Int)])
def oMove (I : Ins) (m : Nat) : Res := if opens I.cs (after I.cs I.st m).2 = true then (moved I m, told (moved I m)) else (I, [-35])
def oTravel (I : Ins) (i : Nat) : Res :=
  if I.cs.length ≤ i then (I, [-2]) else if atEnd (chAt I i) I.pl = true then oMove I (i + 1) else (I, [-12])
def oAvail (I : Ins) : Res := (I, lres (avail I.cs I.pl))
def oLegal (I : Ins) : Res := (I, lres (legal I.cs I.st))
def oSafeM (I : Ins) : Res := (I, lres (safeMoves I.pc I.cs I.st))
def oIsSafe (I : Ins) : Res := (I, b01 (sf I))
def plan1 (I : Ins) (h : Nat) : Option (List Nat) := if I.st ∈ lv I.pc I.cs h then some (smallest I.cs I.st (lvs I.pc I.cs h)) else none
def planS (I : Ins) (h : Nat) : Option (List Nat) := if sf I = true then some (smallest I.cs I.st (List.replicate h (safeSt I.pc I.cs))) else none
def planR : Option (List Nat) → List Int
  | none => [-33]
  | some l => lres l
def oFirst (I : Ins) (h : Nat) : Res := (I, if 9 < h then [-22] else planR (plan1 I h))
def oSafeP (I : Ins) (h : Nat) : Res := (I, if 30 < h then [-22] else planR (planS I h))
def follow (I : Ins) : List Nat → Ins
  | [] => I
  | m :: r => follow (moved I m) r
def oFollow (I : Ins) (h : Nat) : Res :=
  if h = 0 ∨ 30 < h then (I, [-22]) else match planS I h with
    | none => (I, [-33])
    | some l => (follow I l, told (follow I l))
def starts (I : Ins) : List Nat := (List.range I.pc).filter fun p => decide ((p, List.replicate I.cs.length 0) ∈ safeSt I.pc I.cs)
def oStarts (I : Ins) : Res := (I, lres (starts I))
def tightB (I : Ins) (i : Nat) : Bool := decide ((chAt I i).m = 1) || !sf (setM I i ((chAt I i).m - 1))
def oTight (I : Ins) : Res := (I, if sf I = true then lres ((List.range I.cs.length).filter (tightB I)) else [-33])
def oSafeW (I : Ins) (i m : Nat) : Res :=
  (I, if I.cs.length ≤ i then [-2] else if m = 0 ∨ 3 < m then [-22] else b01 (sf (setM I i m)))
def common (I : Ins) (m : Nat) : Ins := { I with cs := I.cs.map fun c => { c with m := m }, ag := List.replicate I.cs.length 0 }
def oMin (I : Ins) : Res := (I, if sf (common I 1) = true then [1] else if sf (common I 2) = true then [2] else if sf (common I 3) = true then [3] else [-33])
def oTrips (I : Ins) : Res := (I, [((I.cs.map fun c => 12 / (c.m + 1)).sum : Nat), 12])
def listed : List Ch → List Nat → List Int
  | c :: cs, x :: xs => (c.a : Int) :: (c.b : Int) :: (c.m : Int) :: (x : Int) :: listed cs xs
  | _, _ => []
def oList (I : Ins) : Res := (I, (I.cs.length : Int) :: listed I.cs I.ag)
def oSum (I : Ins) : Res := (I, [(I.pc : Int), (I.cs.length : Int), (I.pl : Int), (I.he : Int)])
/-- the operation of a number -/
def opOf : Nat → Ins → List Nat → Res
  | 1, I, [a, b, m] => oAdd I a b m
  | 2, I, [i] => oRemove I i
  | 3, I, [i, m] => oSetMax I i m
  | 4, I, [p] => oSetPos I p
  | 5, I, [i, a] => oSetAge I i a
  | 6, I, [] => oReset I
  | 7, I, [i] => oTravel I i
  | 8, I, [] => oMove I 0
  | 9, I, [] => oAvail I
  | 10, I, [] => oLegal I
  | 11, I, [] => oSafeM I
  | 12, I, [] => oIsSafe I
  | 13, I, [h] => oFirst I h
  | 14, I, [h] => oSafeP I h
  | 15, I, [h] => oFollow I h
  | 16, I, [] => oStarts I
  | 17, I, [] => oTight I
  | 18, I, [i, m] => oSafeW I i m
  | 19, I, [] => oMin I
  | 20, I, [] => oTrips I
  | 21, I, [] => oList I
  | 22, I, [] => oSum I
  | _, I, _ => (I, [])
/-! ### what is clear of them -/
theorem into_le {cs : List Ch} {s : Sta} {S : List Sta} {m : Nat} (h : m ∈ into cs s S) : m ≤ cs.length := legal_le (List.mem_filter.mp h).1
theorem into_len (cs : List Ch) (s : Sta) (S : List Sta) : (into cs s S).length ≤ cs.length + 1 := Nat.le_trans (List.length_filter_le _ _) (legal_len cs s)
theorem smallest_len (cs : List Ch) : ∀ (G : List (List Sta)) (s : Sta), (smallest cs s G).length = G.length
  | [], _ => rfl
  | _ :: r, s => congrArg (· + 1) (smallest_len cs r _)
theorem lvs_len (n : Nat) (cs : List Ch) : ∀ k, (lvs n cs k).length = k
  | 0 => rfl
  | k + 1 => congrArg (· + 1) (lvs_len n cs k)
/-- each step of the goals can be made -/
def Runs (cs : List Ch) : Sta → List (List Sta) → Prop
  | _, [] => True
  | s, G :: r => into cs s G ≠ [] ∧ Runs cs (after cs s ((into cs s G).headD 0)) r
theorem head_mem {l : List Nat} (h : l ≠ []) : l.headD 0 ∈ l := by
  cases l with
  | nil => exact absurd rfl h
  | cons x l => exact List.mem_cons_self
theorem into_to {cs : List Ch} {s : Sta} {S : List Sta} {m : Nat} (h : m ∈ into cs s S) : after cs s m ∈ S := of_decide_eq_true (List.mem_filter.mp h).2
theorem can_into {cs : List Ch} {S : List Sta} {s : Sta} (h : canStay cs S s = true) : into cs s S ≠ [] := by
  intro e
  unfold canStay at h
  rw [e] at h
  cases h
theorem stay_can {cs : List Ch} {S : List Sta} {s : Sta} (h : s ∈ stay cs S) : canStay cs S s = true := (List.mem_filter.mp h).2
/-- the safe states can stay -/
theorem fix_stay (cs : List Ch) : ∀ (k : Nat) (S : List Sta), S.length < k → stay cs (fixS cs k S) = fixS cs k S
  | 0, _, h => absurd h (Nat.not_lt_zero _)
  | k + 1, S, h => by
    by_cases e : (stay cs S).length = S.length
    · rw [fix_eq e, stay_all e, stay_all e]
    · rw [fix_ne e]
      have := stay_lt e
      exact fix_stay cs k _ (by omega)
theorem safe_stay (n : Nat) (cs : List Ch) : stay cs (safeSt n cs) = safeSt n cs := fix_stay cs _ _ (Nat.lt_succ_self _)
theorem safe_step {n : Nat} {cs : List Ch} {s : Sta} (h : s ∈ safeSt n cs) : into cs s (safeSt n cs) ≠ [] := by
  rw [← safe_stay] at h
  exact can_into (stay_can h)
theorem runs_safe (n : Nat) (cs : List Ch) : ∀ (k : Nat) (s : Sta), s ∈ safeSt n cs → Runs cs s (List.replicate k (safeSt n cs))
  | 0, _, _ => True.intro
  | k + 1, s, h => ⟨safe_step h, runs_safe n cs k _ (into_to (head_mem (safe_step h)))⟩
theorem runs_lv (n : Nat) (cs : List Ch) : ∀ (k : Nat) (s : Sta), s ∈ lv n cs k → Runs cs s (lvs n cs k)
  | 0, _, _ => True.intro
  | k + 1, s, h => by
    have c := can_into (stay_can h)
    exact ⟨c, runs_lv n cs k _ (into_to (head_mem c))⟩
theorem lv_sub (n : Nat) (cs : List Ch) : ∀ (k : Nat) (s : Sta), s ∈ lv n cs (k + 1) → s ∈ lv n cs k := fun k s h => stay_sub h
theorem lv_open (n : Nat) (cs : List Ch) : ∀ (k : Nat) (s : Sta), s ∈ lv n cs k → s ∈ openStates n cs
  | 0, _, h => h
  | k + 1, s, h => lv_open n cs k s (lv_sub n cs k s h)
theorem lv_nodup (n : Nat) (cs : List Ch) : ∀ k, (lv n cs k).Nodup
  | 0 => openStates_nodup n cs
  | k + 1 => (lv_nodup n cs k).sublist List.filter_sublist
theorem lv_len (n : Nat) (cs : List Ch) : ∀ k, (lv n cs k).length ≤ (openStates n cs).length
  | 0 => Nat.le_refl _
  | k + 1 => Nat.le_trans (stay_len _ _) (lv_len n cs k)
end OL
/-! The operations are the specification's. -/
namespace OL
open Km558
def ages (A : Area) : List Nat := A.channels.map fun c => c.age
def insOf (A : Area) : Ins := ⟨A.placeCount, chs A, ages A, A.position, A.hoursElapsed⟩
theorem cur_spec (A : Area) : currentSnapshot A = snap (insOf A).st := rfl
theorem ages_len (A : Area) : (ages A).length = channelCount A := List.length_map _
theorem fit_of {A : Area} (K : Ok (insOf A)) : Fit A := by
  refine ⟨K.pc, ?_, fun c hc => ?_⟩
  · have := K.few
    rwa [show (insOf A).cs.length = A.channels.length from chs_len A] at this
  · have := K.ch (chOf c) (List.mem_map.mpr ⟨c, hc, rfl⟩)
    have hp := K.pc
    exact ⟨Nat.lt_of_lt_of_le this.1 hp, Nat.lt_of_lt_of_le this.2.1 hp, this.2.2.2⟩
theorem sf_spec {A : Area} (F : Fit A) (h : A.position < A.placeCount) : isCurrentlySafe A = sf (insOf A) := by
  unfold isCurrentlySafe sf
  rw [cur_spec, isSafe_spec F h (ages_len A)]
  rfl
theorem ages_get {A : Area} {i : Nat} (h : i < channelCount A) : (ages A).getD i 0 = (getChannel A i).age := by
  rw [get_ch h, List.getD_eq_getElem?_getD, List.getElem?_eq_getElem (by rw [ages_len]; exact h)]
  exact List.getElem_map _
theorem set_spec {A : Area} {i m : Nat} (h : i < channelCount A) : insOf (withMaxAge A i m) = setM (insOf A) i m := by
  unfold insOf withMaxAge setM
  have e1 : (insOf A).cs.getD i default = chOf (getChannel A i) := chs_getD h
  have e2 : (insOf A).ag.getD i 0 = (getChannel A i).age := ages_get h
  have d1 : chs { A with channels := A.channels.set i { getChannel A i with maxAge := m, age := min m (getChannel A i).age } } = (chs A).set i { chAt (insOf A) i with m := m } := by
    unfold chs chAt
    rw [e1, List.map_set]
    rfl
  have d2 : ages { A with channels := A.channels.set i { getChannel A i with maxAge := m, age := min m (getChannel A i).age } } = (ages A).set i (min ((insOf A).ag.getD i 0) m) := by
    unfold ages
    rw [e2, List.map_set, Nat.min_comm]
  rw [d1, d2]
  rfl
theorem move_spec {A : Area} {m : Nat} (h : m ≤ channelCount A) : insOf (makeMove A m) = moved (insOf A) m := by
  have e : afterMove A (currentSnapshot A) m = snap (after (chs A) (insOf A).st m) := by
    rw [cur_spec]
    exact after_spec (ages_len A) h
  have hl : (after (chs A) (insOf A).st m).2.length = channelCount A := by
    rw [after_len]
    exact ages_len A
  unfold makeMove moved insOf
  have d1 : chs { A with position := (afterMove A (currentSnapshot A) m).place, hoursElapsed := A.hoursElapsed + 1, channels := (List.range (channelCount A)).map fun i => { getChannel A i with age := (afterMove A (currentSnapshot A) m).ages.getD i 0 } } = chs A := by
    rw [chs_range A]
    unfold chs
    rw [List.map_map]
    rfl
  have d2 : ages { A with position := (afterMove A (currentSnapshot A) m).place, hoursElapsed := A.hoursElapsed + 1, channels := (List.range (channelCount A)).map fun i => { getChannel A i with age := (afterMove A (currentSnapshot A) m).ages.getD i 0 } } = (after (chs A) (insOf A).st m).2 := by
    unfold ages
    rw [List.map_map]
    show (List.range (channelCount A)).map (fun i => (afterMove A (currentSnapshot A) m).ages.getD i 0) = _
    rw [e]
    refine List.ext_getElem (by rw [List.length_map, List.length_range, hl]) fun i h1 h2 => ?_
    rw [List.getElem_map, List.getElem_range]
    show (after (chs A) (insOf A).st m).2.getD i 0 = _
    rw [List.getD_eq_getElem?_getD, List.getElem?_eq_getElem h2]
    rfl
  dsimp only at d1 d2 ⊢
  rw [d1, d2, e]
  rfl
theorem erase_map {α β : Type} (f : α → β) : ∀ (l : List α) (i : Nat), (l.eraseIdx i).map f = (l.map f).eraseIdx i
  | [], _ => rfl
  | _ :: _, 0 => rfl
  | x :: l, i + 1 => congrArg (f x :: ·) (erase_map f l i)
/-- both answer the same and leave the same -/
def Sim (x : State × Result) (y : Res) : Prop := (∃ B, x.1 = some B ∧ insOf B = y.1) ∧ x.2.num :: x.2.nums = y.2
theorem sim_err {A : Area} {c : Int} : Sim (some A, error c) (insOf A, [c]) := ⟨⟨A, rfl, rfl⟩, rfl⟩
theorem sim_same {A : Area} {r : Result} {l : List Int} (h : r.num :: r.nums = l) : Sim (some A, r) (insOf A, l) := ⟨⟨A, rfl, rfl⟩, h⟩
theorem cs_len (A : Area) : (insOf A).cs.length = channelCount A := chs_len A
section
variable {A : Area}
theorem s_add {a b m : Nat} : Sim (step (some A) (.addChannel a b m)) (oAdd (insOf A) a b m) := by
  unfold step oAdd
  dsimp only
  rw [cs_len]
  show Sim (if A.placeCount ≤ a ∨ A.placeCount ≤ b then _ else if a = b ∨ m = 0 ∨ 3 < m then _ else if 3 ≤ channelCount A then _ else _) (if A.placeCount ≤ a ∨ A.placeCount ≤ b then _ else _)
  split
  · exact sim_err
  split
  · exact sim_err
  split
  · exact sim_err
  · refine ⟨⟨_, rfl, ?_⟩, rfl⟩
    unfold insOf chs ages
    simp only [List.map_append]
    rfl
theorem s_remove {i : Nat} : Sim (step (some A) (.removeChannel i)) (oRemove (insOf A) i) := by
  unfold step oRemove
  dsimp only
  rw [cs_len]
  split
  · exact sim_err
  · refine ⟨⟨_, rfl, ?_⟩, rfl⟩
    have e1 : (A.channels.eraseIdx i).map chOf = (chs A).eraseIdx i := erase_map _ _ _
    have e2 : (A.channels.eraseIdx i).map (fun c => c.age) = (ages A).eraseIdx i := erase_map _ _ _
    unfold insOf chs ages
    dsimp only
    rw [e1, e2]
    rfl
theorem s_setMax {i m : Nat} : Sim (step (some A) (.setMaxAge i m)) (oSetMax (insOf A) i m) := by
  unfold step oSetMax
  dsimp only
  rw [cs_len]
  by_cases h : channelCount A ≤ i
  · rw [if_pos h, if_pos h]
    exact sim_err
  rw [if_neg h, if_neg h]
  show Sim (if m = 0 ∨ 3 < m then _ else _) _
  split
  · exact sim_err
  · refine ⟨⟨_, rfl, set_spec (by omega)⟩, ?_⟩
    unfold chAt
    rw [show (insOf A).cs.getD i default = chOf (getChannel A i) from chs_getD (by omega)]
    rfl
theorem s_setPos {p : Nat} : Sim (step (some A) (.setPosition p)) (oSetPos (insOf A) p) := by
  unfold step oSetPos
  dsimp only
  show Sim _ (if A.placeCount ≤ p then _ else _)
  split
  · exact sim_err
  · exact ⟨⟨_, rfl, rfl⟩, rfl⟩
theorem s_setAge {i a : Nat} : Sim (step (some A) (.setAge i a)) (oSetAge (insOf A) i a) := by
  unfold step oSetAge
  dsimp only
  rw [cs_len]
  by_cases h : channelCount A ≤ i
  · rw [if_pos h, if_pos h]
    exact sim_err
  rw [if_neg h, if_neg h]
  have e1 : chAt (insOf A) i = chOf (getChannel A i) := chs_getD (by omega)
  have e2 : (insOf A).ag.getD i 0 = (getChannel A i).age := ages_get (by omega)
  rw [e1, e2]
  show Sim _ (if (getChannel A i).maxAge < a then _ else _)
  split
  · exact sim_err
  · refine ⟨⟨_, rfl, ?_⟩, rfl⟩
    have d1 : (A.channels.set i { getChannel A i with age := a }).map chOf = chs A := by
      rw [List.map_set, show chOf { getChannel A i with age := a } = chOf (getChannel A i) from rfl, ← chs_get (show i < channelCount A by omega)]
      exact List.set_getElem_self _
    have d2 : (A.channels.set i { getChannel A i with age := a }).map (fun c => c.age) = (ages A).set i a := by
      rw [List.map_set]
      rfl
    unfold insOf chs ages
    dsimp only
    rw [d1, d2]
    rfl
theorem s_reset : Sim (step (some A) .reset) (oReset (insOf A)) := by
  unfold step oReset
  dsimp only
  rw [cs_len]
  refine ⟨⟨_, rfl, ?_⟩, rfl⟩
  unfold insOf chs ages
  dsimp only
  have d1 : (A.channels.map fun c => { c with age := 0 }).map chOf = A.channels.map chOf := by
    rw [List.map_map]
    rfl
  have d2 : (A.channels.map fun c => { c with age := 0 }).map (fun c => c.age) = List.replicate (channelCount A) 0 := by
    rw [List.map_map]
    exact List.map_const' ..
  rw [d1, d2]
theorem told_spec {m : Nat} (h : m ≤ channelCount A) : ((makeMove A m).position : Int) :: toInts ((makeMove A m).channels.map fun c => c.age) = told (moved (insOf A) m) := by
  rw [← move_spec h]
  rfl
theorem open_spec {m : Nat} (h : m ≤ channelCount A) : allOpen A (afterMove A (currentSnapshot A) m) = opens (insOf A).cs (after (insOf A).cs (insOf A).st m).2 := by
  rw [cur_spec, after_spec (ages_len A) h]
  exact opens_spec (by rw [after_len]; exact ages_len A)
theorem s_travel {i : Nat} : Sim (step (some A) (.travel i)) (oTravel (insOf A) i) := by
  unfold step oTravel
  dsimp only
  rw [cs_len]
  by_cases h : channelCount A ≤ i
  · rw [if_pos h, if_pos h]
    exact sim_err
  rw [if_neg h, if_neg h]
  have hm : i + 1 ≤ channelCount A := by omega
  have e1 : chAt (insOf A) i = chOf (getChannel A i) := chs_getD (by omega)
  have e3 : (Km558.availableMoves A A.position).contains (i + 1) = atEnd (chAt (insOf A) i) (insOf A).pl := by
    rw [e1, Bool.eq_iff_iff, List.contains_iff_mem]
    unfold Km558.availableMoves
    rw [List.mem_filter, List.mem_range]
    unfold atEnd chOf insOf
    simp only [Nat.add_sub_cancel, Bool.or_eq_true, beq_iff_eq, decide_eq_true_eq]
    constructor
    · rintro ⟨_, h | h | h⟩
      · omega
      · exact .inl h.symm
      · exact .inr h.symm
    · rintro (h | h)
      · exact ⟨by omega, .inr (.inl h.symm)⟩
      · exact ⟨by omega, .inr (.inr h.symm)⟩
  rw [e3]
  by_cases h2 : atEnd (chAt (insOf A) i) (insOf A).pl = true
  · rw [if_pos h2, if_neg (by rw [h2]; decide)]
    unfold oMove
    rw [open_spec hm]
    by_cases h3 : opens (insOf A).cs (after (insOf A).cs (insOf A).st (i + 1)).2 = true
    · rw [if_pos h3, if_neg (by rw [h3]; decide)]
      exact ⟨⟨_, rfl, move_spec hm⟩, told_spec hm⟩
    · rw [if_neg h3, if_pos (Bool.eq_false_iff.mpr h3)]
      exact sim_err
  · rw [if_neg h2, if_pos (Bool.eq_false_iff.mpr h2)]
    exact sim_err
theorem s_wait : Sim (step (some A) .wait) (oMove (insOf A) 0) := by
  unfold step oMove
  dsimp only
  rw [open_spec (Nat.zero_le _)]
  by_cases h3 : opens (insOf A).cs (after (insOf A).cs (insOf A).st 0).2 = true
  · rw [if_pos h3, if_neg (by rw [h3]; decide)]
    exact ⟨⟨_, rfl, move_spec (Nat.zero_le _)⟩, told_spec (Nat.zero_le _)⟩
  · rw [if_neg h3, if_pos (Bool.eq_false_iff.mpr h3)]
    exact sim_err
theorem s_avail : Sim (step (some A) .availableMoves) (oAvail (insOf A)) := sim_same (by
  show ((Km558.availableMoves A A.position).length : Int) :: toInts (Km558.availableMoves A A.position) = _
  rw [avail_spec]
  rfl)
theorem legal_eq : ((Km558.availableMoves A A.position).filter fun move => allOpen A (Km558.afterMove A (currentSnapshot A) move)) = legal (insOf A).cs (insOf A).st := by
  rw [avail_spec]
  refine List.filter_congr fun m hm => ?_
  have h := avail_le hm
  rw [chs_len] at h
  exact open_spec h
theorem s_legal : Sim (step (some A) .legalMoves) (oLegal (insOf A)) := sim_same (by
  show (listResult _).num :: (listResult _).nums = _
  rw [legal_eq]
  rfl)
end
end OL
namespace OL
open Km558
section
variable {A : Area}
theorem safe_at (K : Ok (insOf A)) {s : Sta} (h1 : s.1 < A.placeCount) (h2 : s.2.length = channelCount A) :
    Km558.isSafe A (safeCodes A) (snap s) = decide (s ∈ safeSt (insOf A).pc (insOf A).cs) := isSafe_spec (fit_of K) h1 h2
theorem other_lt {I : Ins} (K : Ok I) {p m : Nat} (h1 : 1 ≤ m) (h2 : m ≤ I.cs.length) : other (I.cs.getD (m - 1) default) p < I.pc := by
  rw [List.getD_eq_getElem?_getD, List.getElem?_eq_getElem (by omega)]
  have := K.ch _ (List.getElem_mem (show m - 1 < I.cs.length by omega))
  show other (I.cs[m - 1]) p < I.pc
  unfold other
  split
  · exact this.2.1
  · exact this.1
theorem after_lt {I : Ins} (K : Ok I) {s : Sta} {m : Nat} (hs : s.1 < I.pc) (h2 : m ≤ I.cs.length) : (after I.cs s m).1 < I.pc := by
  unfold after
  split
  · exact hs
  · exact other_lt K (by omega) h2
theorem safe_after (K : Ok (insOf A)) {s : Sta} {m : Nat} (h1 : s.1 < A.placeCount) (h2 : s.2.length = channelCount A) (hm : m ≤ channelCount A) :
    Km558.isSafe A (safeCodes A) (afterMove A (snap s) m) = decide (after (insOf A).cs s m ∈ safeSt (insOf A).pc (insOf A).cs) := by
  rw [after_spec h2 hm]
  exact safe_at K (after_lt K h1 (by rw [cs_len]; exact hm)) (by rw [after_len]; exact h2)
theorem into_safe (cs : List Ch) (s : Sta) (n : Nat) : into cs s (safeSt n cs) = (avail cs s.1).filter fun m => decide (after cs s m ∈ safeSt n cs) := by
  unfold into legal
  rw [List.filter_filter]
  refine List.filter_congr fun m _ => ?_
  by_cases h : after cs s m ∈ safeSt n cs
  · rw [decide_eq_true h, (safe_opens h).2.2]
    rfl
  · rw [decide_eq_false h]
    rfl
theorem s_safeM (K : Ok (insOf A)) : Sim (step (some A) .safeMoves) (oSafeM (insOf A)) := sim_same (by
  show (listResult _).num :: (listResult _).nums = _
  have e : ((Km558.availableMoves A A.position).filter fun m => Km558.isSafe A (safeCodes A) (Km558.afterMove A (currentSnapshot A) m)) = safeMoves (insOf A).pc (insOf A).cs (insOf A).st := by
    unfold safeMoves
    rw [into_safe, avail_spec]
    refine List.filter_congr fun m hm => ?_
    have h := avail_le hm
    rw [chs_len] at h
    exact safe_after (s := (insOf A).st) K K.pl (ages_len A) h
  rw [e]
  rfl)
theorem b01_eq (b : Bool) : (boolean b).num :: (boolean b).nums = b01 b := by cases b <;> rfl
theorem s_isSafe (K : Ok (insOf A)) : Sim (step (some A) .isSafe) (oIsSafe (insOf A)) := sim_same (by
  show (boolean (isCurrentlySafe A)).num :: (boolean (isCurrentlySafe A)).nums = _
  rw [sf_spec (fit_of K) K.pl, b01_eq])
/-! ### plans -/
theorem find_head {l : List Nat} {p : Nat → Bool} : l.find? p = (l.filter p).head? := (List.head?_filter ..).symm
theorem safePlan_spec (K : Ok (insOf A)) : ∀ (h : Nat) (s : Sta), s.1 < A.placeCount → s.2.length = channelCount A → s ∈ safeSt (insOf A).pc (insOf A).cs →
    Km558.safePlan A (safeCodes A) h (snap s) = smallest (insOf A).cs s (List.replicate h (safeSt (insOf A).pc (insOf A).cs))
  | 0, _, _, _, _ => rfl
  | h + 1, s, h1, h2, hs => by
    have e : ((Km558.availableMoves A s.1).filter fun m => Km558.isSafe A (safeCodes A) (afterMove A (snap s) m)) = into (insOf A).cs s (safeSt (insOf A).pc (insOf A).cs) := by
      rw [into_safe, avail_spec]
      refine List.filter_congr fun m hm => ?_
      have hh := avail_le hm
      rw [chs_len] at hh
      exact safe_after K h1 h2 hh
    have f : (Km558.availableMoves A s.1).find? (fun m => Km558.isSafe A (safeCodes A) (afterMove A (snap s) m)) = (into (insOf A).cs s (safeSt (insOf A).pc (insOf A).cs)).head? := by rw [find_head, e]
    have ne := safe_step hs
    show (match (Km558.availableMoves A s.1).find? (fun m => Km558.isSafe A (safeCodes A) (afterMove A (snap s) m)) with
      | none => []
      | some m => m :: Km558.safePlan A (safeCodes A) h (afterMove A (snap s) m)) = (into (insOf A).cs s (safeSt (insOf A).pc (insOf A).cs)).headD 0 :: smallest (insOf A).cs (after (insOf A).cs s ((into (insOf A).cs s (safeSt (insOf A).pc (insOf A).cs)).headD 0)) (List.replicate h (safeSt (insOf A).pc (insOf A).cs))
    rw [f]
    generalize hL : into (insOf A).cs s (safeSt (insOf A).pc (insOf A).cs) = L at ne
    cases L with
    | nil => exact absurd rfl ne
    | cons m L =>
      have mem : m ∈ into (insOf A).cs s (safeSt (insOf A).pc (insOf A).cs) := by rw [hL]; exact List.mem_cons_self
      have hm := into_le mem
      have hc : m ≤ channelCount A := by rw [cs_len] at hm; exact hm
      show m :: Km558.safePlan A (safeCodes A) h (afterMove A (snap s) m) = m :: smallest (insOf A).cs (after (insOf A).cs s m) _
      rw [after_spec h2 hc]
      exact congrArg (m :: ·) (safePlan_spec K h _ (after_lt K h1 hm) (by rw [after_len]; exact h2) (into_to mem))
theorem find_some (p : Nat → Bool) (g : Nat → List Nat) : ∀ l : List Nat, l.findSome? (fun m => if p m = true then some (m :: g m) else none) = ((l.filter p).head?).map fun m => m :: g m
  | [] => rfl
  | x :: l => by
    rw [List.findSome?_cons, List.filter_cons]
    by_cases h : p x = true
    · rw [if_pos h, if_pos h]
      rfl
    · rw [if_neg h, if_neg h]
      exact find_some p g l
theorem into_sub {cs : List Ch} {s : Sta} {S T : List Sta} (h : ∀ x ∈ S, x ∈ T) (c : canStay cs S s = true) : canStay cs T s = true := by
  have ne := can_into c
  obtain ⟨h1, h2⟩ := List.mem_filter.mp (head_mem ne)
  have : (into cs s S).headD 0 ∈ into cs s T := List.mem_filter.mpr ⟨h1, decide_eq_true (h _ (of_decide_eq_true h2))⟩
  unfold canStay
  cases e : into cs s T with
  | nil => rw [e] at this; cases this
  | cons x l => rfl
theorem lv_up {n : Nat} {cs : List Ch} {s : Sta} (h0 : s ∈ openStates n cs) : ∀ k, canStay cs (lv n cs k) s = true → s ∈ lv n cs (k + 1)
  | 0, c => List.mem_filter.mpr ⟨h0, c⟩
  | k + 1, c => List.mem_filter.mpr ⟨lv_up h0 k (into_sub (lv_sub n cs k) c), c⟩
theorem firstPlan_spec (K : Ok (insOf A)) : ∀ (h : Nat) (s : Sta), s ∈ openStates (insOf A).pc (insOf A).cs →
    Km558.firstPlan A h (snap s) = if s ∈ lv (insOf A).pc (insOf A).cs h then some (smallest (insOf A).cs s (lvs (insOf A).pc (insOf A).cs h)) else none
  | 0, s, ho => (if_pos ho).symm
  | h + 1, s, ho => by
    obtain ⟨h1, h2, h3⟩ := mem_openStates.mp ho
    have h2' : s.2.length = channelCount A := by rw [h2, cs_len]
    have each : ∀ m ∈ Km558.availableMoves A s.1, (if allOpen A (afterMove A (snap s) m) = true then (Km558.firstPlan A h (afterMove A (snap s) m)).map fun rest => m :: rest else none) =
        if (opens (insOf A).cs (after (insOf A).cs s m).2 && decide (after (insOf A).cs s m ∈ lv (insOf A).pc (insOf A).cs h)) = true then some (m :: smallest (insOf A).cs (after (insOf A).cs s m) (lvs (insOf A).pc (insOf A).cs h)) else none := by
      intro m hm
      rw [avail_spec] at hm
      have hh := avail_le hm
      have hc : m ≤ channelCount A := by rw [chs_len] at hh; exact hh
      rw [after_spec h2' hc, opens_spec (by rw [after_len]; exact h2')]
      have e0 : opens (chs A) (after (chs A) s m).2 = opens (insOf A).cs (after (insOf A).cs s m).2 := rfl
      rw [e0]
      by_cases ho2 : opens (insOf A).cs (after (insOf A).cs s m).2 = true
      · rw [if_pos ho2, ho2, Bool.true_and]
        have := firstPlan_spec K h (after (insOf A).cs s m) (mem_openStates.mpr ⟨after_lt K h1 hh, by rw [after_len]; exact h2, ho2⟩)
        rw [show after (chs A) s m = after (insOf A).cs s m from rfl, this]
        by_cases h4 : after (insOf A).cs s m ∈ lv (insOf A).pc (insOf A).cs h
        · rw [if_pos h4, decide_eq_true h4]
          rfl
        · rw [if_neg h4, decide_eq_false h4]
          rfl
      · rw [if_neg ho2, Bool.eq_false_iff.mpr ho2]
        rfl
    have fold : ∀ (l : List Nat) (f g : Nat → Option (List Nat)), (∀ m ∈ l, f m = g m) → l.findSome? f = l.findSome? g := by
      intro l f g
      induction l with
      | nil => intro _; rfl
      | cons x l ih =>
        intro e
        rw [List.findSome?_cons, List.findSome?_cons, e x List.mem_cons_self, ih fun m hm => e m (List.mem_cons_of_mem _ hm)]
    have a1 : Km558.firstPlan A (h + 1) (snap s) = (Km558.availableMoves A s.1).findSome? fun m => if allOpen A (afterMove A (snap s) m) = true then (Km558.firstPlan A h (afterMove A (snap s) m)).map fun rest => m :: rest else none := rfl
    rw [a1, fold _ _ _ each, find_some, avail_spec]
    have ei : ((avail (chs A) s.1).filter fun m => opens (insOf A).cs (after (insOf A).cs s m).2 && decide (after (insOf A).cs s m ∈ lv (insOf A).pc (insOf A).cs h)) = into (insOf A).cs s (lv (insOf A).pc (insOf A).cs h) := by
      unfold into legal
      rw [List.filter_filter]
      exact List.filter_congr fun m _ => Bool.and_comm _ _
    rw [ei]
    by_cases c : canStay (insOf A).cs (lv (insOf A).pc (insOf A).cs h) s = true
    · rw [if_pos (show s ∈ lv (insOf A).pc (insOf A).cs (h + 1) from lv_up ho h c)]
      show _ = some ((into (insOf A).cs s (lv (insOf A).pc (insOf A).cs h)).headD 0 :: smallest _ (after _ s ((into (insOf A).cs s (lv (insOf A).pc (insOf A).cs h)).headD 0)) _)
      have ne := can_into c
      cases e : into (insOf A).cs s (lv (insOf A).pc (insOf A).cs h) with
      | nil => exact absurd e ne
      | cons m L => rfl
    · rw [if_neg (show ¬ s ∈ lv (insOf A).pc (insOf A).cs (h + 1) from fun z => c (stay_can z))]
      have e : into (insOf A).cs s (lv (insOf A).pc (insOf A).cs h) = [] := by
        cases e : into (insOf A).cs s (lv (insOf A).pc (insOf A).cs h) with
        | nil => rfl
        | cons m L =>
          exfalso
          refine c ?_
          unfold canStay
          rw [e]
          rfl
      rw [e]
      rfl
theorem cur_open (K : Ok (insOf A)) : (insOf A).st ∈ openStates (insOf A).pc (insOf A).cs := mem_openStates.mpr ⟨K.pl, K.len, K.op⟩
theorem s_first (K : Ok (insOf A)) {h : Nat} : Sim (step (some A) (.firstPlan h)) (oFirst (insOf A) h) := by
  unfold step oFirst
  dsimp only
  refine sim_same ?_
  by_cases c : 9 < h
  · rw [if_pos c, if_pos c]
    rfl
  · rw [if_neg c, if_neg c, cur_spec, firstPlan_spec K h _ (cur_open K)]
    unfold plan1
    by_cases d : (insOf A).st ∈ lv (insOf A).pc (insOf A).cs h
    · rw [if_pos d]
      rfl
    · rw [if_neg d]
      rfl
theorem safe_now (K : Ok (insOf A)) : Km558.isSafe A (safeCodes A) (currentSnapshot A) = sf (insOf A) := sf_spec (fit_of K) K.pl
theorem s_safeP (K : Ok (insOf A)) {h : Nat} : Sim (step (some A) (.safePlan h)) (oSafeP (insOf A) h) := by
  unfold step oSafeP
  dsimp only
  refine sim_same ?_
  by_cases c : 30 < h
  · rw [if_pos c, if_pos c]
    rfl
  · rw [if_neg c, if_neg c, safe_now K]
    unfold planS
    by_cases d : sf (insOf A) = true
    · rw [if_pos d, if_neg (by rw [d]; decide), cur_spec, safePlan_spec K h _ K.pl (ages_len A) (of_decide_eq_true d)]
      rfl
    · rw [if_neg d, if_pos (Bool.eq_false_iff.mpr d)]
      rfl
theorem chs_move (m : Nat) : chs (makeMove A m) = chs A := by
  rw [chs_range A]
  unfold makeMove chs
  rw [List.map_map]
  rfl
theorem follow_spec : ∀ (l : List Nat) (A : Area), (∀ m ∈ l, m ≤ channelCount A) → insOf (makeMoves A l) = follow (insOf A) l
  | [], A, _ => rfl
  | m :: l, A, h => by
    show insOf (makeMoves (makeMove A m) l) = follow (moved (insOf A) m) l
    have e : channelCount (makeMove A m) = channelCount A := by rw [← chs_len, chs_move, chs_len]
    rw [follow_spec l (makeMove A m) (fun x hx => by rw [e]; exact h x (List.mem_cons_of_mem _ hx)), move_spec (h m List.mem_cons_self)]
theorem smallest_le (cs : List Ch) : ∀ (G : List (List Sta)) (s : Sta), Runs cs s G → ∀ m ∈ smallest cs s G, m ≤ cs.length
  | [], _, _, _, h => nomatch h
  | G :: r, s, R, m, h => by
    rcases List.mem_cons.mp h with e | h
    · rw [e]
      exact into_le (head_mem R.1)
    · exact smallest_le cs r _ R.2 m h
theorem s_follow (K : Ok (insOf A)) {h : Nat} : Sim (step (some A) (.followSafePlan h)) (oFollow (insOf A) h) := by
  unfold step oFollow
  dsimp only
  by_cases c : h = 0 ∨ 30 < h
  · rw [if_pos c, if_pos c]
    exact sim_err
  · rw [if_neg c, if_neg c, safe_now K]
    unfold planS
    by_cases d : sf (insOf A) = true
    · rw [if_pos d, if_neg (by rw [d]; decide), cur_spec, safePlan_spec K h _ K.pl (ages_len A) (of_decide_eq_true d)]
      have e := follow_spec (smallest (insOf A).cs (insOf A).st (List.replicate h (safeSt (insOf A).pc (insOf A).cs))) A fun m hm => by
        have := smallest_le _ _ _ (runs_safe _ _ h _ (of_decide_eq_true d)) m hm
        rwa [cs_len] at this
      refine ⟨⟨_, rfl, e⟩, ?_⟩
      dsimp only
      rw [← e]
      rfl
    · rw [if_neg d, if_pos (Bool.eq_false_iff.mpr d)]
      exact sim_err
end
end OL
namespace OL
open Km558
/-! ### what stands stays right -/
theorem opens_iff : ∀ {cs : List Ch} {l : List Nat}, opens cs l = true ↔ ∀ (i : Nat) (c : Ch) (n : Nat), cs[i]? = some c → l[i]? = some n → n ≤ c.m
  | [], _ => ⟨fun _ i c n h _ => by simp at h, fun _ => by unfold opens; rfl⟩
  | _ :: _, [] => ⟨fun _ i c n _ h => by simp at h, fun _ => by unfold opens; rfl⟩
  | c :: cs, x :: xs => by
    have ih := opens_iff (cs := cs) (l := xs)
    show (if c.m < x then false else opens cs xs) = true ↔ _
    constructor
    · intro h i d n h1 h2
      by_cases e : c.m < x
      · rw [if_pos e] at h
        cases h
      · rw [if_neg e] at h
        cases i with
        | zero =>
          have e1 : c = d := Option.some.inj h1
          have e2 : x = n := Option.some.inj h2
          subst e1 e2
          omega
        | succ j => exact ih.mp h j d n h1 h2
    · intro h
      have h0 := h 0 c x rfl rfl
      rw [if_neg (by omega)]
      exact ih.mpr fun i d n h1 h2 => h (i + 1) d n h1 h2
theorem chAt_mem {I : Ins} {i : Nat} (h : i < I.cs.length) : chAt I i ∈ I.cs := by
  unfold chAt
  rw [List.getD_eq_getElem?_getD, List.getElem?_eq_getElem h]
  exact List.getElem_mem h
theorem chAt_get {I : Ins} {i : Nat} (h : i < I.cs.length) : I.cs[i]? = some (chAt I i) := by
  unfold chAt
  rw [List.getD_eq_getElem?_getD, List.getElem?_eq_getElem h]
  rfl
theorem ok_setM {I : Ins} (K : Ok I) {i m : Nat} (h : i < I.cs.length) (h1 : 1 ≤ m) (h3 : m ≤ 3) : Ok (setM I i m) := by
  refine ⟨K.pc, ?_, ?_, fun c hc => ?_, K.pl, opens_iff.mpr fun j c n e1 e2 => ?_⟩
  · show (I.cs.set i _).length ≤ 3
    rw [List.length_set]
    exact K.few
  · show (I.ag.set i _).length = (I.cs.set i _).length
    rw [List.length_set, List.length_set]
    exact K.len
  · rcases List.mem_or_eq_of_mem_set hc with hc | rfl
    · exact K.ch c hc
    · have := K.ch _ (chAt_mem h)
      exact ⟨this.1, this.2.1, h1, h3⟩
  · have e1 : (I.cs.set i { chAt I i with m := m })[j]? = some c := e1
    have e2 : (I.ag.set i (min (I.ag.getD i 0) m))[j]? = some n := e2
    rw [List.getElem?_set] at e1 e2
    by_cases e : i = j
    · rw [if_pos e, if_pos h] at e1
      rw [if_pos e, if_pos (by rw [K.len]; exact h)] at e2
      have e1 := Option.some.inj e1
      have e2 := Option.some.inj e2
      subst e1 e2
      exact Nat.min_le_right _ _
    · rw [if_neg e] at e1 e2
      exact opens_iff.mp K.op j c n e1 e2
theorem ok_moved {I : Ins} (K : Ok I) {m : Nat} (h : m ≤ I.cs.length) (ho : opens I.cs (after I.cs I.st m).2 = true) : Ok (moved I m) :=
  ⟨K.pc, K.few, by show (after I.cs I.st m).2.length = _; rw [after_len]; exact K.len, K.ch, after_lt K K.pl h, ho⟩
theorem opens_zero (cs : List Ch) (n : Nat) : opens cs (List.replicate n 0) = true := opens_iff.mpr fun i c x _ h => by
  rw [List.getElem?_replicate] at h
  split at h
  · have := Option.some.inj h
    omega
  · cases h
theorem ok_common {I : Ins} (K : Ok I) {m : Nat} (h1 : 1 ≤ m) (h3 : m ≤ 3) : Ok (common I m) := by
  refine ⟨K.pc, ?_, ?_, fun c hc => ?_, K.pl, opens_zero _ _⟩
  · show (I.cs.map _).length ≤ 3
    rw [List.length_map]
    exact K.few
  · show (List.replicate I.cs.length 0).length = (I.cs.map _).length
    rw [List.length_map, List.length_replicate]
  · obtain ⟨d, hd, rfl⟩ := List.mem_map.mp hc
    have := K.ch d hd
    exact ⟨this.1, this.2.1, h1, h3⟩
theorem ok_follow : ∀ (G : List (List Sta)) (I : Ins), Ok I → Runs I.cs I.st G → Ok (follow I (smallest I.cs I.st G))
  | [], I, K, _ => K
  | g :: G, I, K, R => by
    have hm := head_mem R.1
    exact ok_follow G (moved I ((into I.cs I.st g).headD 0)) (ok_moved K (into_le hm) (List.mem_filter.mp (List.mem_filter.mp hm).1).2) R.2
theorem ok_op {I : Ins} (K : Ok I) : ∀ (n : Nat) (ps : List Nat), Ok (opOf n I ps).1 := by
  have move : ∀ m, m ≤ I.cs.length → Ok (oMove I m).1 := fun m hm => by
    unfold oMove
    split
    · rename_i h
      exact ok_moved K hm h
    · exact K
  intro n ps
  unfold opOf
  split
  case h_1 a b m =>
    unfold oAdd
    split
    · exact K
    split
    · exact K
    split
    · exact K
    rename_i h1 h2 h3
    refine ⟨K.pc, ?_, ?_, fun c hc => ?_, K.pl, ?_⟩
    · show (I.cs ++ [_]).length ≤ 3
      rw [List.length_append, List.length_singleton]
      omega
    · show (I.ag ++ [0]).length = (I.cs ++ [_]).length
      rw [List.length_append, List.length_append, K.len]
      rfl
    · rcases List.mem_append.mp hc with hc | hc
      · exact K.ch c hc
      · rw [List.mem_singleton.mp hc]
        exact ⟨by show a < I.pc; omega, by show b < I.pc; omega, by show 1 ≤ m; omega, by show m ≤ 3; omega⟩
    · show opens (I.cs ++ [_]) (I.ag ++ [0]) = true
      rw [opens_snoc _ _ _ _ K.len, K.op]
      exact decide_eq_true (p := 0 ≤ m) (Nat.zero_le m)
  case h_2 i =>
    unfold oRemove
    split
    · exact K
    rename_i h
    refine ⟨K.pc, ?_, ?_, fun c hc => K.ch c (List.mem_of_mem_eraseIdx hc), K.pl, opens_iff.mpr fun j c n e1 e2 => ?_⟩
    · show (I.cs.eraseIdx i).length ≤ 3
      have := List.length_eraseIdx_le I.cs i
      have := K.few
      omega
    · show (I.ag.eraseIdx i).length = (I.cs.eraseIdx i).length
      rw [List.length_eraseIdx, List.length_eraseIdx, K.len]
    · have e1 : (I.cs.eraseIdx i)[j]? = some c := e1
      have e2 : (I.ag.eraseIdx i)[j]? = some n := e2
      rw [List.getElem?_eraseIdx] at e1 e2
      split at e1
      · rename_i q
        rw [if_pos q] at e2
        exact opens_iff.mp K.op _ _ _ e1 e2
      · rename_i q
        rw [if_neg q] at e2
        exact opens_iff.mp K.op _ _ _ e1 e2
  case h_3 i m =>
    unfold oSetMax
    split
    · exact K
    split
    · exact K
    · exact ok_setM K (by omega) (by omega) (by omega)
  case h_4 p =>
    unfold oSetPos
    split
    · exact K
    · rename_i h
      exact ⟨K.pc, K.few, K.len, K.ch, by show p < I.pc; omega, K.op⟩
  case h_5 i a =>
    unfold oSetAge
    split
    · exact K
    split
    · exact K
    rename_i h1 h2
    refine ⟨K.pc, K.few, ?_, K.ch, K.pl, opens_iff.mpr fun j c n e1 e2 => ?_⟩
    · show (I.ag.set i a).length = _
      rw [List.length_set]
      exact K.len
    · have e2 : (I.ag.set i a)[j]? = some n := e2
      have e1 : I.cs[j]? = some c := e1
      rw [List.getElem?_set] at e2
      by_cases e : i = j
      · rw [if_pos e, if_pos (by rw [K.len]; omega)] at e2
        have e2 := Option.some.inj e2
        subst e2 e
        rw [chAt_get (by omega)] at e1
        have e1 := Option.some.inj e1
        subst e1
        omega
      · rw [if_neg e] at e2
        exact opens_iff.mp K.op j c n e1 e2
  case h_6 => exact ⟨K.pc, K.few, List.length_replicate, K.ch, K.pl, opens_zero _ _⟩
  case h_7 i =>
    unfold oTravel
    split
    · exact K
    split
    · exact move _ (by omega)
    · exact K
  case h_8 => exact move 0 (Nat.zero_le _)
  case h_15 h =>
    unfold oFollow
    split
    · exact K
    unfold planS
    split
    · exact K
    rename_i l e
    split at e
    · rename_i s
      obtain rfl := Option.some.inj e
      exact ok_follow _ _ K (runs_safe _ _ h _ (of_decide_eq_true s))
    · cases e
  all_goals exact K
end OL
namespace OL
open Km558
section
variable {A : Area}
theorem fresh_eq (A : Area) (p : Nat) : freshSnapshot A p = snap (p, List.replicate (channelCount A) 0) := by
  unfold freshSnapshot snap
  have e : ((List.range (channelCount A)).map fun _ => 0) = List.replicate (channelCount A) 0 := by
    rw [List.map_const', List.length_range]
  rw [e]
theorem s_starts (K : Ok (insOf A)) : Sim (step (some A) .safeStartPlaces) (oStarts (insOf A)) := sim_same (by
  show (listResult _).num :: (listResult _).nums = _
  have e : ((List.range A.placeCount).filter fun p => Km558.isSafe A (safeCodes A) (freshSnapshot A p)) = starts (insOf A) := by
    unfold starts
    rw [cs_len]
    refine List.filter_congr fun p hp => ?_
    rw [fresh_eq]
    exact safe_at K (List.mem_range.mp hp) List.length_replicate
  rw [e]
  rfl)
theorem sfM_spec (K : Ok (insOf A)) {i m : Nat} (h : i < channelCount A) (h1 : 1 ≤ m) (h3 : m ≤ 3) : isCurrentlySafe (withMaxAge A i m) = sf (setM (insOf A) i m) := by
  rw [← set_spec h]
  refine sf_spec (fit_of ?_) K.pl
  rw [set_spec h]
  exact ok_setM K (by rw [cs_len]; exact h) h1 h3
theorem s_safeW (K : Ok (insOf A)) {i m : Nat} : Sim (step (some A) (.isSafeWithMaxAge i m)) (oSafeW (insOf A) i m) := by
  unfold step oSafeW
  dsimp only
  refine sim_same ?_
  rw [cs_len]
  by_cases h : channelCount A ≤ i
  · rw [if_pos h, if_pos h]
    rfl
  rw [if_neg h, if_neg h]
  by_cases h2 : m = 0 ∨ 3 < m
  · rw [if_pos h2, if_pos (show m = 0 ∨ greatestMaxAge < m from h2)]
    rfl
  rw [if_neg h2, if_neg (show ¬ (m = 0 ∨ greatestMaxAge < m) from h2), sfM_spec K (by omega) (by omega) (by omega), b01_eq]
theorem s_tight (K : Ok (insOf A)) : Sim (step (some A) .tightChannels) (oTight (insOf A)) := by
  unfold step oTight
  dsimp only
  refine sim_same ?_
  rw [sf_spec (fit_of K) K.pl]
  by_cases h : sf (insOf A) = true
  · rw [if_pos h, if_neg (by rw [h]; decide)]
    have e : ((List.range (channelCount A)).filter fun i => (getChannel A i).maxAge == 1 || !(isCurrentlySafe (withMaxAge A i ((getChannel A i).maxAge - 1)))) = (List.range (insOf A).cs.length).filter (tightB (insOf A)) := by
      rw [cs_len]
      refine List.filter_congr fun i hi => ?_
      have hi := List.mem_range.mp hi
      have e1 : chAt (insOf A) i = chOf (getChannel A i) := chs_getD hi
      have kc := K.ch _ (chAt_mem (show i < (insOf A).cs.length by rw [cs_len]; exact hi))
      rw [e1] at kc
      have k1 : 1 ≤ (getChannel A i).maxAge := kc.2.2.1
      have k3 : (getChannel A i).maxAge ≤ 3 := kc.2.2.2
      unfold tightB
      rw [e1]
      show ((getChannel A i).maxAge == 1 || _) = (decide ((getChannel A i).maxAge = 1) || !sf (setM (insOf A) i ((getChannel A i).maxAge - 1)))
      by_cases q : (getChannel A i).maxAge = 1
      · rw [q]
        rfl
      · rw [decide_eq_false q, beq_eq_false_iff_ne.mpr q, Bool.false_or, Bool.false_or, sfM_spec K hi (by omega) (by omega)]
    rw [e]
    rfl
  · rw [if_neg h, if_pos (Bool.eq_false_iff.mpr h)]
    rfl
theorem common_spec (m : Nat) : insOf (withCommonMaxAge A m) = common (insOf A) m := by
  unfold insOf withCommonMaxAge common chs ages
  dsimp only
  rw [List.map_map, List.map_map]
  have e : (A.channels.map chOf).length = A.channels.length := List.length_map _
  show Ins.mk _ _ _ _ _ = Ins.mk _ _ (List.replicate (A.channels.map chOf).length 0) _ _
  rw [e]
  have d1 : A.channels.map (chOf ∘ fun c => { c with maxAge := m, age := 0 }) = (A.channels.map chOf).map fun c => { c with m := m } := by
    rw [List.map_map]
    rfl
  have d2 : A.channels.map ((fun c => c.age) ∘ fun c : KCh => { c with maxAge := m, age := 0 }) = List.replicate A.channels.length 0 := List.map_const' ..
  rw [d1, d2]
theorem sfC_spec (K : Ok (insOf A)) {m : Nat} (h1 : 1 ≤ m) (h3 : m ≤ 3) :
    Km558.isSafe (withCommonMaxAge A m) (safeCodes (withCommonMaxAge A m)) (freshSnapshot A A.position) = sf (common (insOf A) m) := by
  have KC : Ok (insOf (withCommonMaxAge A m)) := by
    rw [common_spec]
    exact ok_common K h1 h3
  have e : freshSnapshot A A.position = currentSnapshot (withCommonMaxAge A m) := by
    rw [fresh_eq, cur_spec, common_spec]
    unfold Ins.st common
    rw [cs_len]
    rfl
  rw [e, ← common_spec]
  exact sf_spec (fit_of KC) K.pl
theorem s_min (K : Ok (insOf A)) : Sim (step (some A) .minCommonMaxAge) (oMin (insOf A)) := by
  unfold step oMin
  dsimp only
  refine sim_same ?_
  have e : (List.range greatestMaxAge) = [0, 1, 2] := rfl
  rw [e, List.find?_cons, List.find?_cons, List.find?_cons]
  rw [sfC_spec K (by decide) (by decide), sfC_spec K (by decide) (by decide), sfC_spec K (by decide) (by decide)]
  show _ = if sf (common (insOf A) 1) = true then [1] else if sf (common (insOf A) 2) = true then [2] else if sf (common (insOf A) 3) = true then [3] else [-33]
  by_cases h1 : sf (common (insOf A) 1) = true
  · rw [if_pos h1, h1]
    rfl
  rw [if_neg h1, Bool.eq_false_iff.mpr h1]
  by_cases h2 : sf (common (insOf A) 2) = true
  · rw [if_pos h2, h2]
    rfl
  rw [if_neg h2, Bool.eq_false_iff.mpr h2]
  by_cases h3 : sf (common (insOf A) 3) = true
  · rw [if_pos h3, h3]
    rfl
  rw [if_neg h3, Bool.eq_false_iff.mpr h3]
  rfl
theorem fold_sum : ∀ (l : List Nat) (a : Nat), l.foldl (fun (a b : Nat) => a + b) a = a + l.sum
  | [], a => by simp
  | x :: l, a => by
    rw [List.foldl_cons, fold_sum l, List.sum_cons, Nat.add_assoc]
theorem s_trips : Sim (step (some A) .requiredTrips) (oTrips (insOf A)) := by
  unfold step oTrips
  dsimp only
  refine sim_same ?_
  have e : Km558.requiredTrips A = ((insOf A).cs.map fun c => 12 / (c.m + 1)).sum := by
    unfold Km558.requiredTrips
    rw [fold_sum, Nat.zero_add]
    show _ = ((A.channels.map chOf).map fun c => 12 / (c.m + 1)).sum
    rw [List.map_map]
    rfl
  rw [e]
theorem listed_eq : ∀ l : List KCh, l.flatMap (fun c => [(c.endA : Int), (c.endB : Int), (c.maxAge : Int), (c.age : Int)]) = listed (l.map chOf) (l.map fun c => c.age)
  | [] => rfl
  | c :: l => by
    rw [List.flatMap_cons, listed_eq l]
    rfl
theorem s_list : Sim (step (some A) .listChannels) (oList (insOf A)) := by
  unfold step oList
  dsimp only
  refine sim_same ?_
  rw [listed_eq, cs_len]
  rfl
theorem s_sum : Sim (step (some A) .summary) (oSum (insOf A)) := by
  unfold step oSum
  dsimp only
  refine sim_same ?_
  rw [cs_len]
  rfl
end
/-! ### a whole call -/
/-- how many parameters an operation has -/
def counts : List Nat := [1, 3, 1, 2, 1, 2, 0, 1, 0, 0, 0, 0, 0, 1, 1, 1, 0, 0, 2, 0, 0, 0, 0]
def performed (w : Option Ins) (n : Nat) (ps : List Nat) : Option Ins × List Int :=
  if n = 0 then (if ps.headD 0 < 2 ∨ 4 < ps.headD 0 then (w, [-22]) else (some ⟨ps.headD 0, [], [], 0, 0⟩, [0]))
  else match w with
    | none => (none, [-11])
    | some I => (some (opOf n I ps).1, (opOf n I ps).2)
def OkW : Option Ins → Prop
  | none => True
  | some I => Ok I
theorem ok_performed {w : Option Ins} (K : OkW w) (n : Nat) (ps : List Nat) : OkW (performed w n ps).1 := by
  unfold performed
  split
  · split
    · exact K
    · rename_i h
      exact ⟨by show ps.headD 0 ≤ 4; omega, Nat.zero_le _, rfl, fun c hc => (by cases hc), by show 0 < ps.headD 0; omega, rfl⟩
  · cases w with
    | none => exact True.intro
    | some I => exact ok_op K n ps
/-- the states go together -/
def Same1 (s : State) (w : Option Ins) : Prop := s.map insOf = w
theorem sim_step {s : State} {w : Option Ins} {n : Nat} {ps : List Nat} (e : Same1 s w) (K : OkW w) (hn : n < 23) (hl : ps.length = counts.getD n 0) :
    Same1 (Km558Neutral.step s [((n : Int) :: zs ps)]).1 (performed w n ps).1 ∧ (Km558Neutral.step s [((n : Int) :: zs ps)]).2 = (performed w n ps).2 := by
  have fin : ∀ {c : Call} {r : Res} {A : Area}, Sim (step (some A) c) r → Km558Neutral.parseCall [((n : Int) :: zs ps)] = some c → s = some A → performed w n ps = (some r.1, r.2) →
      Same1 (Km558Neutral.step s [((n : Int) :: zs ps)]).1 (performed w n ps).1 ∧ (Km558Neutral.step s [((n : Int) :: zs ps)]).2 = (performed w n ps).2 := by
    intro c r A S hp hs hw
    unfold Km558Neutral.step
    rw [hp, hs, hw]
    obtain ⟨⟨B, h1, h2⟩, h3⟩ := S
    refine ⟨?_, h3⟩
    show Option.map insOf (step (some A) c).1 = some r.1
    rw [h1, ← h2]
    rfl
  have none11 : ∀ {c : Call}, Km558Neutral.parseCall [((n : Int) :: zs ps)] = some c → s = none → n ≠ 0 → step none c = (none, error (-11)) →
      Same1 (Km558Neutral.step s [((n : Int) :: zs ps)]).1 (performed w n ps).1 ∧ (Km558Neutral.step s [((n : Int) :: zs ps)]).2 = (performed w n ps).2 := by
    intro c hp hs h0 he
    have hw : w = none := by rw [← e, hs]; rfl
    unfold Km558Neutral.step performed
    rw [hp, hs, hw, if_neg h0]
    dsimp only
    rw [he]
    exact ⟨rfl, rfl⟩
  have each : ∀ (c : Call) (o : Ins → Res), Km558Neutral.parseCall [((n : Int) :: zs ps)] = some c → n ≠ 0 → step none c = (none, error (-11)) → (∀ I, opOf n I ps = o I) → (∀ A, Ok (insOf A) → Sim (step (some A) c) (o (insOf A))) →
      Same1 (Km558Neutral.step s [((n : Int) :: zs ps)]).1 (performed w n ps).1 ∧ (Km558Neutral.step s [((n : Int) :: zs ps)]).2 = (performed w n ps).2 := by
    intro c o hp h0 he ho hs
    cases s with
    | none => exact none11 hp rfl h0 he
    | some A =>
      have hw : w = some (insOf A) := by rw [← e]; rfl
      rw [hw] at K
      refine fin (hs A K) hp rfl ?_
      rw [hw]
      unfold performed
      rw [if_neg h0, ← ho]
  match n, ps, hn, hl with
  | 0, [p], _, _ =>
    unfold Km558Neutral.step performed
    rw [if_pos rfl]
    show Same1 (step s (.create p)).1 _ ∧ (step s (.create p)).2.num :: (step s (.create p)).2.nums = _
    unfold step
    dsimp only
    show Same1 (if p < 2 ∨ 4 < p then _ else _ : State × Result).1 (if p < 2 ∨ 4 < p then _ else _ : Option Ins × List Int).1 ∧ _ :: _ = (if p < 2 ∨ 4 < p then _ else _ : Option Ins × List Int).2
    by_cases h : p < 2 ∨ 4 < p
    · rw [if_pos h, if_pos h, if_pos (show p < 2 ∨ maxPlaces < p from h)]
      exact ⟨e, rfl⟩
    · rw [if_neg h, if_neg h, if_neg (show ¬ (p < 2 ∨ maxPlaces < p) from h)]
      exact ⟨rfl, rfl⟩
  | 1, [a, b, m], _, _ => exact each (.addChannel a b m) (fun I => oAdd I a b m) rfl (by decide) rfl (fun _ => rfl) fun A K => s_add
  | 2, [i], _, _ => exact each (.removeChannel i) (fun I => oRemove I i) rfl (by decide) rfl (fun _ => rfl) fun A K => s_remove
  | 3, [i, m], _, _ => exact each (.setMaxAge i m) (fun I => oSetMax I i m) rfl (by decide) rfl (fun _ => rfl) fun A K => s_setMax
  | 4, [p], _, _ => exact each (.setPosition p) (fun I => oSetPos I p) rfl (by decide) rfl (fun _ => rfl) fun A K => s_setPos
  | 5, [i, a], _, _ => exact each (.setAge i a) (fun I => oSetAge I i a) rfl (by decide) rfl (fun _ => rfl) fun A K => s_setAge
  | 6, [], _, _ => exact each .reset oReset rfl (by decide) rfl (fun _ => rfl) fun A K => s_reset
  | 7, [i], _, _ => exact each (.travel i) (fun I => oTravel I i) rfl (by decide) rfl (fun _ => rfl) fun A K => s_travel
  | 8, [], _, _ => exact each .wait (fun I => oMove I 0) rfl (by decide) rfl (fun _ => rfl) fun A K => s_wait
  | 9, [], _, _ => exact each .availableMoves oAvail rfl (by decide) rfl (fun _ => rfl) fun A K => s_avail
  | 10, [], _, _ => exact each .legalMoves oLegal rfl (by decide) rfl (fun _ => rfl) fun A K => s_legal
  | 11, [], _, _ => exact each .safeMoves oSafeM rfl (by decide) rfl (fun _ => rfl) fun A K => s_safeM K
  | 12, [], _, _ => exact each .isSafe oIsSafe rfl (by decide) rfl (fun _ => rfl) fun A K => s_isSafe K
  | 13, [h], _, _ => exact each (.firstPlan h) (fun I => oFirst I h) rfl (by decide) rfl (fun _ => rfl) fun A K => s_first K
  | 14, [h], _, _ => exact each (.safePlan h) (fun I => oSafeP I h) rfl (by decide) rfl (fun _ => rfl) fun A K => s_safeP K
  | 15, [h], _, _ => exact each (.followSafePlan h) (fun I => oFollow I h) rfl (by decide) rfl (fun _ => rfl) fun A K => s_follow K
  | 16, [], _, _ => exact each .safeStartPlaces oStarts rfl (by decide) rfl (fun _ => rfl) fun A K => s_starts K
  | 17, [], _, _ => exact each .tightChannels oTight rfl (by decide) rfl (fun _ => rfl) fun A K => s_tight K
  | 18, [i, m], _, _ => exact each (.isSafeWithMaxAge i m) (fun I => oSafeW I i m) rfl (by decide) rfl (fun _ => rfl) fun A K => s_safeW K
  | 19, [], _, _ => exact each .minCommonMaxAge oMin rfl (by decide) rfl (fun _ => rfl) fun A K => s_min K
  | 20, [], _, _ => exact each .requiredTrips oTrips rfl (by decide) rfl (fun _ => rfl) fun A K => s_trips
  | 21, [], _, _ => exact each .listChannels oList rfl (by decide) rfl (fun _ => rfl) fun A K => s_list
  | 22, [], _, _ => exact each .summary oSum rfl (by decide) rfl (fun _ => rfl) fun A K => s_sum
  | n + 23, _, h, _ => exact absurd h (by omega)
end OL
namespace OL
open Km558
/-! ### the list of numbers as calls -/
abbrev Req := List (Nat × List Nat)
def one (c : Nat × List Nat) : List Int := (c.1 : Int) :: zs c.2
def flat (r : Req) : List Int := r.flatMap one
def Fair (c : Nat × List Nat) : Prop := c.1 < 23 ∧ c.2.length = counts.getD c.1 0
theorem whole_id (c : List (List Int)) : PyKm558.whole c = c := by
  unfold PyKm558.whole
  split <;> rfl
theorem shape_or {c : Prop} [Decidable c] {a x b : Option (Nat × Nat)} (h : (if c then a else x) = b) : (c ∧ a = b) ∨ x = b := by
  split at h
  · exact .inl ⟨by assumption, h⟩
  · exact .inr h
theorem shape_is {p : Int} {n k : Nat} (h : PyKm558.shape p = some (n, k)) : ∃ m : Nat, m < 23 ∧ p = (m : Int) ∧ n = counts.getD m 0 ∧ k = 0 := by
  have go : ∀ (m : Nat), m < 23 → p = (m : Int) → some (counts.getD m 0, 0) = some (n, k) → ∃ m : Nat, m < 23 ∧ p = (m : Int) ∧ n = counts.getD m 0 ∧ k = 0 := by
    intro m h1 h2 h3
    have h4 := Option.some.inj h3
    exact ⟨m, h1, h2, (congrArg Prod.fst h4).symm, (congrArg Prod.snd h4).symm⟩
  unfold PyKm558.shape at h
  iterate 23 (rcases shape_or h with ⟨q, h⟩ | h; · exact go p.toNat (by subst q; decide) (by subst q; rfl) (by subst q; exact h))
  cases h
theorem nat_all : ∀ {l : List Int}, (∀ z ∈ l, 0 ≤ z) → ∃ k : List Nat, l = zs k
  | [], _ => ⟨[], rfl⟩
  | z :: l, h => by
    obtain ⟨k, rfl⟩ := nat_all (l := l) fun y hy => h y (List.mem_cons_of_mem _ hy)
    refine ⟨z.toNat :: k, ?_⟩
    have := h z List.mem_cons_self
    show z :: zs k = ((z.toNat : Nat) : Int) :: zs k
    rw [Int.toNat_of_nonneg this]
theorem zs_len (l : List Nat) : (zs l).length = l.length := List.length_map _
theorem parse_is : ∀ (f : Nat) (l : List Int) (raw : List (List (List Int))), PyFlat.calls PyKm558.shape f l = some raw → (∀ z ∈ l, 0 ≤ z) →
    ∃ r : Req, l = flat r ∧ raw = r.map (fun c => [one c]) ∧ ∀ c ∈ r, Fair c
  | f, [], raw, h, _ => by
    have e : raw = [] := by
      cases f <;> exact (Option.some.inj h).symm
    exact ⟨[], rfl, e, fun c hc => nomatch hc⟩
  | 0, _ :: _, raw, h, _ => by cases h
  | f + 1, p :: r, raw, h, hp => by
    unfold PyFlat.calls at h
    split at h
    · cases h
    rename_i c t hc
    split at h
    · cases h
    rename_i cs hcs
    have h := Option.some.inj h
    have hc : (match PyKm558.shape p with
      | none => none
      | some (n, k) => if r.length < n then none else match PyFlat.rows k (r.drop n) with
        | none => none
        | some (xs, t) => some ((p :: r.take n) :: xs, t)) = some (c, t) := hc
    split at hc
    · cases hc
    rename_i n k hs
    obtain ⟨m, hm, e1, e2, e3⟩ := shape_is hs
    split at hc
    · cases hc
    rename_i hlen
    subst e3
    have hc := Option.some.inj (show some ((p :: r.take n) :: [], r.drop n) = some (c, t) from hc)
    have c1 : c = [p :: r.take n] := (congrArg Prod.fst hc).symm
    have c2 : t = r.drop n := (congrArg Prod.snd hc).symm
    obtain ⟨q, q1, q2, q3⟩ := parse_is f t cs hcs fun z hz => hp z (List.mem_cons_of_mem _ (List.mem_of_mem_drop (by rw [← c2]; exact hz)))
    obtain ⟨ps, hps⟩ := nat_all (l := r.take n) fun z hz => hp z (List.mem_cons_of_mem _ (List.mem_of_mem_take hz))
    have hl : ps.length = n := by
      have := congrArg List.length hps
      rw [zs_len, List.length_take, Nat.min_eq_left (by omega)] at this
      exact this.symm
    refine ⟨(m, ps) :: q, ?_, ?_, fun x hx => ?_⟩
    · show p :: r = (m : Int) :: zs ps ++ flat q
      rw [← q1, c2, ← hps, e1, List.cons_append, List.take_append_drop]
    · rw [← h, c1, q2, hps, e1]
      rfl
    · rcases List.mem_cons.mp hx with e | hx
      · rw [e]
        exact ⟨hm, by rw [← e2]; exact hl⟩
      · exact q3 x hx
/-! ### what is due -/
def runW : Option Ins → Req → List Int
  | _, [] => []
  | w, c :: r => (((performed w c.1 c.2).2.length : Nat) : Int) :: ((performed w c.1 c.2).2 ++ runW (performed w c.1 c.2).1 r)
theorem runW_is : ∀ (r : Req) (s : State) (w : Option Ins), Same1 s w → OkW w → (∀ c ∈ r, Fair c) → PyFlat.told (PyFlat.played Km558Neutral.step s (r.map fun c => [one c])) = runW w r
  | [], _, _, _, _, _ => rfl
  | c :: r, s, w, e, K, h => by
    have hc := h c List.mem_cons_self
    obtain ⟨e1, e2⟩ := sim_step e K hc.1 hc.2
    have ih := runW_is r _ _ e1 (ok_performed K c.1 c.2) fun x hx => h x (List.mem_cons_of_mem _ hx)
    show PyFlat.told ((Km558Neutral.step s [one c]).2 :: PyFlat.played Km558Neutral.step (Km558Neutral.step s [one c]).1 (r.map fun c => [one c])) = _
    unfold PyFlat.told at ih ⊢
    rw [List.flatMap_cons]
    unfold one at ih ⊢
    rw [ih, e2]
    rfl
theorem due_is {l : List Int} (ha : PyKm558.answers_asked l = true) (h0 : ∀ z ∈ l, 0 ≤ z) : ∃ r : Req, l = flat r ∧ (∀ c ∈ r, Fair c) ∧ r.length ≤ 40 ∧ PyKm558.answers l = runW none r := by
  unfold PyKm558.answers_asked at ha
  split at ha
  · cases ha
  rename_i raw hr
  obtain ⟨r, h1, h2, h3⟩ := parse_is _ l raw hr h0
  refine ⟨r, h1, h3, ?_, ?_⟩
  · rw [Bool.and_eq_true, Bool.and_eq_true, Bool.and_eq_true, Bool.and_eq_true] at ha
    have := of_decide_eq_true ha.1.1.1.2
    rwa [h2, List.length_map] at this
  · unfold PyKm558.answers PyKm558.calls
    rw [hr]
    show PyFlat.told (PyFlat.played Km558Neutral.step Km558Neutral.start (raw.map PyKm558.whole)) = _
    rw [show raw.map PyKm558.whole = raw from (List.map_congr_left fun c _ => whole_id c).trans (List.map_id _), h2]
    exact runW_is r none none rfl True.intro h3
end OL
/-! What the top has written, the instance in the heap, the defs of state. -/
namespace OL
open PySem PySem.Spec PyProof.Rows L2
/-- the j-th part of the class at i -/
def partS (i j : Nat) : Stmt := match topS i with
  | .ClassDef _ _ _ b _ _ _ _ _ _ _ => b.getD j (.Pass ⟨0, 0, 0, 0⟩)
  | s => s
def Cn (mg : Str → Option Value) (x : Str) (n : Int) : Prop := ∃ t, mg x = some (.int n t)
theorem pe_c {X : Cx} {x : Str} {n : Int} {pos : Pos} (hg : Gl X x) (h : Cn X.mg x n) (hd : (x == ("__debug__" : Str)) = false := by decide) : PE X (.Name x pos) (tC (.int n)) := by
  obtain ⟨t, e⟩ := h
  exact pe_glob hg e ⟨t, rfl⟩ hd
/-- the entries of OPERATIONS -/
def opE (fa : Nat → Addr) (tk : Nat → Nat) (n i : Nat) : DictEntry := ⟨n, .int n (tk n), .ref (fa i)⟩
/-- where the def of an operation stands in the text -/
def opAt : List Nat := [57, 58, 59, 60, 61, 62, 63, 64, 65, 67, 68, 69, 70, 71, 72, 74, 75, 76, 77, 78, 79, 80, 81]
def opEs (fa : Nat → Addr) (tk : Nat → Nat) : Array DictEntry := (((List.range 22).map (· + 1)).map fun n => opE fa tk n (opAt.getD n 0)).toArray
/-- all that the top has written -/
structure All (K : PySem.W.Frag) (mg : Str → Option Value) (fa : Nat → Addr) (fd : Nat → FuncData) (CC CI CR : Addr) : Prop where
  T : Txt K mg CC CI CR
  M : MovesAt K mg (fa 2) (fa 3) (fa 4) (fa 5) (fa 6) (fa 7) (fd 2) (fd 3) (fd 4) (fd 5) (fd 6) (fd 7)
  Z : SafetyAt K mg (fa 9) (fa 10) (fa 11) (fa 12) (fa 13) (fa 14) (fd 9) (fd 10) (fd 11) (fd 12) (fd 13) (fd 14)
  d16 : DefAt K mg "first_plan_from" (topS 16) ["place_count", "channels", "state", "hours"] (fa 16) (fd 16)
  d17 : DefAt K mg "safe_plan_from" (topS 17) ["place_count", "channels", "state", "hours"] (fa 17) (fd 17)
  d18 : DefAt K mg "smallest_moves" (topS 18) ["channels", "state", "goals"] (fa 18) (fd 18)
  d25 : DefAt K mg "current_state" (topS 25) ["instance"] (fa 25) (fd 25)
  d26 : DefAt K mg "fresh_ages" (topS 26) ["instance"] (fa 26) (fd 26)
  d27 : DefAt K mg "change_max_age" (topS 27) ["instance", "number", "max_age"] (fa 27) (fd 27)
  d28 : DefAt K mg "copy_of" (topS 28) ["instance"] (fa 28) (fd 28)
  d30 : DefAt K mg "is_in_safe_state" (topS 30) ["instance"] (fa 30) (fd 30)
  d31 : DefAt K mg "would_be_safe" (topS 31) ["instance", "number", "max_age"] (fa 31) (fd 31)
  d32 : DefAt K mg "is_tight" (topS 32) ["instance", "number"] (fa 32) (fd 32)
  d33 : DefAt K mg "would_start_safely" (topS 33) ["instance", "max_age"] (fa 33) (fd 33)
  d34 : DefAt K mg "start_places" (topS 34) ["instance"] (fa 34) (fd 34)
  d51 : DefAt K mg "refused" (topS 51) ["code"] (fa 51) (fd 51)
  d52 : DefAt K mg "is_place" (topS 52) ["instance", "place"] (fa 52) (fd 52)
  d53 : DefAt K mg "is_channel" (topS 53) ["instance", "channel"] (fa 53) (fd 53)
  d54 : DefAt K mg "is_max_age" (topS 54) ["max_age"] (fa 54) (fd 54)
  d55 : DefAt K mg "counted" (topS 55) ["numbers"] (fa 55) (fd 55)
  d56 : DefAt K mg "one_if" (topS 56) ["holds"] (fa 56) (fd 56)
  d57 : DefAt K mg "create" (topS 57) ["request", "parameters"] (fa 57) (fd 57)
  d58 : DefAt K mg "add_channel" (topS 58) ["instance", "parameters"] (fa 58) (fd 58)
  d59 : DefAt K mg "remove_channel" (topS 59) ["instance", "parameters"] (fa 59) (fd 59)
  d60 : DefAt K mg "set_max_age" (topS 60) ["instance", "parameters"] (fa 60) (fd 60)
  d61 : DefAt K mg "set_position" (topS 61) ["instance", "parameters"] (fa 61) (fd 61)
  d62 : DefAt K mg "set_age" (topS 62) ["instance", "parameters"] (fa 62) (fd 62)
  d63 : DefAt K mg "reset" (topS 63) ["instance", "parameters"] (fa 63) (fd 63)
  d64 : DefAt K mg "travel" (topS 64) ["instance", "parameters"] (fa 64) (fd 64)
  d65 : DefAt K mg "wait" (topS 65) ["instance", "parameters"] (fa 65) (fd 65)
  d66 : DefAt K mg "make_move" (topS 66) ["instance", "move"] (fa 66) (fd 66)
  d67 : DefAt K mg "available_moves" (topS 67) ["instance", "parameters"] (fa 67) (fd 67)
  d68 : DefAt K mg "legal_moves" (topS 68) ["instance", "parameters"] (fa 68) (fd 68)
  d69 : DefAt K mg "safe_moves" (topS 69) ["instance", "parameters"] (fa 69) (fd 69)
  d70 : DefAt K mg "is_safe" (topS 70) ["instance", "parameters"] (fa 70) (fd 70)
  d71 : DefAt K mg "first_plan" (topS 71) ["instance", "parameters"] (fa 71) (fd 71)
  d72 : DefAt K mg "safe_plan" (topS 72) ["instance", "parameters"] (fa 72) (fd 72)
  d73 : DefAt K mg "counted_plan" (topS 73) ["plan"] (fa 73) (fd 73)
  d74 : DefAt K mg "follow_safe_plan" (topS 74) ["instance", "parameters"] (fa 74) (fd 74)
  d75 : DefAt K mg "safe_start_places" (topS 75) ["instance", "parameters"] (fa 75) (fd 75)
  d76 : DefAt K mg "tight_channels" (topS 76) ["instance", "parameters"] (fa 76) (fd 76)
  d77 : DefAt K mg "is_safe_with_max_age" (topS 77) ["instance", "parameters"] (fa 77) (fd 77)
  d78 : DefAt K mg "min_common_max_age" (topS 78) ["instance", "parameters"] (fa 78) (fd 78)
  d79 : DefAt K mg "required_trips" (topS 79) ["instance", "parameters"] (fa 79) (fd 79)
  d80 : DefAt K mg "list_channels" (topS 80) ["instance", "parameters"] (fa 80) (fd 80)
  d81 : DefAt K mg "summary" (topS 81) ["instance", "parameters"] (fa 81) (fd 81)
  d83 : DefAt K mg "perform" (topS 83) ["request", "number", "parameters"] (fa 83) (fd 83)
  fC : Fun K "__init__" "Channel.__init__" (partS 22 0) (fa 100) (fd 100)
  fI : Fun K "__init__" "Instance.__init__" (partS 23 0) (fa 101) (fd 101)
  fR : Fun K "__init__" "Request.__init__" (partS 24 0) (fa 102) (fd 102)
  bC : Binds K (fd 100) ["self", "end_a", "end_b", "max_age"] []
  bI : Binds K (fd 101) ["self", "place_count"] []
  bR : Binds K (fd 102) ["self"] []
  mC : Mk K CC (fa 100)
  mI : Mk K CI (fa 101)
  mR : Mk K CR (fa 102)
  gC : mg "Channel" = some (.ref CC)
  gI : mg "Instance" = some (.ref CI)
  gR : mg "Request" = some (.ref CR)
  nPc : NoAttr K CI "place_count"
  nCs : NoAttr K CI "channels"
  nAg : NoAttr K CI "ages"
  nPl : NoAttr K CI "place"
  nHe : NoAttr K CI "hours_elapsed"
  nIn : NoAttr K CR "instance"
  bSum : mg "sum" = none
  bRev : mg "reversed" = none
  c1 : Cn mg "LEAST_MAX_AGE" 1
  c3 : Cn mg "MOST_MAX_AGE" 3
  cCr : Cn mg "CREATE" 0
  cLp : Cn mg "LEAST_PLACES" 2
  cMp : Cn mg "MOST_PLACES" 4
  cMc : Cn mg "MOST_CHANNELS" 3
  cHf : Cn mg "MOST_HOURS_OF_FIRST_PLAN" 9
  cHs : Cn mg "MOST_HOURS_OF_SAFE_PLAN" 30
  cHl : Cn mg "LEAST_HOURS_TO_FOLLOW" 1
  cHt : Cn mg "HOURS_OF_TRIPS" 12
  e2 : Cn mg "NOT_THERE" 2
  e11 : Cn mg "NO_INSTANCE" 11
  e12 : Cn mg "NOT_AT_END" 12
  e22 : Cn mg "OUT_OF_RANGE" 22
  e28 : Cn mg "TOO_MANY_CHANNELS" 28
  e33 : Cn mg "NO_PLAN" 33
  e35 : Cn mg "WOULD_FREEZE" 35
  dict : ∃ d tk n, mg "OPERATIONS" = some (.ref d) ∧ K.lookup d = some ⟨.type "dict", none, .dict (opEs fa tk) n, #[]⟩
  pars : ∃ t o n its, mg "PARAMETER_COUNTS" = some (.ref t) ∧ K.lookup t = some o ∧ o.cls = .type "tuple" ∧ o.data = .seq its n ∧ its.size ≤ sizeLine ∧ Vals (nints counts) its.toList

/-! ### an instance in the heap -/
def inF (I : Ins) (l g : Addr) : List (Str × V) :=
  [("place_count", .int I.pc), ("channels", .ref l), ("ages", .ref g), ("place", .int I.pl), ("hours_elapsed", .int I.he)]
theorem inF_pc (I : Ins) (l g : Addr) : (inF I l g).lookup ("place_count" : Str) = some (.int I.pc) := lk_in
theorem inF_cs (I : Ins) (l g : Addr) : (inF I l g).lookup ("channels" : Str) = some (.ref l) := (lk_by (by decide +kernel)).trans lk_in
theorem inF_ag (I : Ins) (l g : Addr) : (inF I l g).lookup ("ages" : Str) = some (.ref g) := (lk_by (by decide +kernel)).trans ((lk_by (by decide +kernel)).trans lk_in)
theorem inF_pl (I : Ins) (l g : Addr) : (inF I l g).lookup ("place" : Str) = some (.int I.pl) :=
  (lk_by (by decide +kernel)).trans ((lk_by (by decide +kernel)).trans ((lk_by (by decide +kernel)).trans lk_in))
theorem inF_he (I : Ins) (l g : Addr) : (inF I l g).lookup ("hours_elapsed" : Str) = some (.int I.he) :=
  (lk_by (by decide +kernel)).trans ((lk_by (by decide +kernel)).trans ((lk_by (by decide +kernel)).trans ((lk_by (by decide +kernel)).trans lk_in)))
theorem putF_at {f : Str} {v x : V} {r : List (Str × V)} : putF f v ((f, x) :: r) = (f, v) :: r := if_pos rfl
theorem putF_by {f g : Str} {v x : V} {r : List (Str × V)} (h : ¬ g = f) : putF f v ((g, x) :: r) = (g, x) :: putF f v r := if_neg h
theorem inF_setAg (I : Ins) (l g g' : Addr) : putF "ages" (.ref g') (inF I l g) = inF I l g' := by
  unfold inF
  rw [putF_by (by decide +kernel), putF_by (by decide +kernel), putF_at]
theorem inF_setPl (I : Ins) (l g : Addr) (p : Nat) : putF "place" (.int p) (inF I l g) = inF { I with pl := p } l g := by
  unfold inF
  rw [putF_by (by decide +kernel), putF_by (by decide +kernel), putF_by (by decide +kernel), putF_at]
theorem inF_setHe (I : Ins) (l g : Addr) (h : Nat) : putF "hours_elapsed" (.int h) (inF I l g) = inF { I with he := h } l g := by
  unfold inF
  rw [putF_by (by decide +kernel), putF_by (by decide +kernel), putF_by (by decide +kernel), putF_by (by decide +kernel), putF_at]
/-- the instance at a, all its parts; N is not its own -/
structure InsD (CC CI : Addr) (H : Hp) (a : Addr) (I : Ins) (N : Addr → Prop) (dx l g : Addr) (as : List Addr) : Prop where
  ho : H a = some (.ins CI dx (inF I l g))
  hl : H l = some (.lst (as.map V.ref))
  hc : Paired (ChAt CC H) as I.cs
  nd : as.Nodup
  hg : H g = some (.lst (nints I.ag))
  lg : l ≠ g
  na : ¬ N a
  nl : ¬ N l
  ng : ¬ N g
  ns : ∀ b ∈ as, ¬ N b
def InsAt (CC CI : Addr) (H : Hp) (a : Addr) (I : Ins) (N : Addr → Prop) : Prop := ∃ dx l g as, InsD CC CI H a I N dx l g as
/-- what N says is as it was -/
def Keep (N : Addr → Prop) (H H' : Hp) : Prop := ∀ b o, H b = some o → N b → H' b = some o
def Trk (N : Addr → Prop) (H : Hp) : Prop := ∀ b, N b → ∃ o, H b = some o
theorem Same.keep {H H' : Hp} (e : Same H H') (N : Addr → Prop) : Keep N H H' := fun b o h _ => e b o h
theorem Keep.trans {N : Addr → Prop} {H H1 H2 : Hp} (a : Keep N H H1) (b : Keep N H1 H2) : Keep N H H2 := fun c o h n => b c o (a c o h n) n
theorem Trk.keep {N : Addr → Prop} {H H' : Hp} (t : Trk N H) (e : Keep N H H') : Trk N H' := fun b n => let ⟨o, h⟩ := t b n; ⟨o, e b o h n⟩
theorem Trk.new {N : Addr → Prop} {H : Hp} {b : Addr} (t : Trk N H) (h : H b = none) : ¬ N b := fun n => by
  obtain ⟨o, e⟩ := t b n
  rw [h] at e
  cases e
theorem InsD.same {CC CI : Addr} {H H' : Hp} {a : Addr} {I : Ins} {N : Addr → Prop} {dx l g : Addr} {as : List Addr} (e : Same H H') (h : InsD CC CI H a I N dx l g as) : InsD CC CI H' a I N dx l g as :=
  ⟨e _ _ h.ho, e _ _ h.hl, Paired.mapP h.hc fun _ _ q => q.same e, h.nd, e _ _ h.hg, h.lg, h.na, h.nl, h.ng, h.ns⟩
theorem InsAt.same {CC CI : Addr} {H H' : Hp} {a : Addr} {I : Ins} {N : Addr → Prop} (e : Same H H') (h : InsAt CC CI H a I N) : InsAt CC CI H' a I N :=
  let ⟨dx, l, g, as, h⟩ := h
  ⟨dx, l, g, as, h.same e⟩
theorem InsD.chs {CC CI : Addr} {H : Hp} {a : Addr} {I : Ins} {N : Addr → Prop} {dx l g : Addr} {as : List Addr} (h : InsD CC CI H a I N dx l g as) : Chs CC H l I.cs := ⟨as, h.hl, h.hc⟩
theorem nints_zs (l : List Nat) : (zs l).map V.int = nints l := nints_map l
theorem nil_nints : nints [] = [] := rfl

section
variable {P : Program} {w : World} {K : PySem.W.Frag} {mg : Str → Option Value} {base : Heap} {fa : Nat → Addr} {fd : Nat → FuncData} {CC CI CR : Addr}
/-! ### the makers -/
def spInitC (CC : Addr) : Sp := fun vs H Q _ => ∃ (x dx : Addr) (c : Ch), vs = [.ref x, .int (c.a : Int), .int (c.b : Int), .int (c.m : Int)] ∧ H x = some (.ins CC dx []) ∧ Q .non (upd H x (.ins CC dx (chF c)))
theorem scInitC : FnScope ["self", "end_a", "end_b", "max_age"] ["self", "end_a", "end_b", "max_age"] (defScope (partS 22 0)) := ⟨rfl, rfl, rfl, by decide +kernel, rfl, by decide +kernel, by decide +kernel⟩
theorem ok_initC {k : Nat} (D : All K mg fa fd CC CI CR) : FnOk P w K mg base CX0 (k + 1) (fa 100) (fd 100) ["self", "end_a", "end_b", "max_age"] (spInitC CC) := by
  refine D.fC.ok scInitC (fun vs H Q E h => ?_) (fun cdv A outer s H vs Q E hr h => ?_)
  · obtain ⟨x, dx, c, rfl, _⟩ := h
    rfl
  · obtain ⟨x, dx, c, rfl, hx, q⟩ := h
    refine ⟨_, pss_cons (ps_fld (pv 0) (pv 1) rfl) (pss_cons (ps_fld (pv 0) (pv 2) rfl) (pss_one (ps_fld (pv 0) (pv 3) rfl))), ?_⟩
    refine ⟨_, rfl, _, rfl, x, CC, dx, [], rfl, hx, D.T.cl, D.T.nA, (by show 0 < 1000; decide), ?_⟩
    refine ⟨_, rfl, _, rfl, x, CC, dx, _, rfl, upd_same, D.T.cl, D.T.nB, (by show 1 < 1000; decide), ?_⟩
    refine ⟨_, rfl, _, rfl, x, CC, dx, _, rfl, upd_same, D.T.cl, D.T.nM, (by show 2 < 1000; decide), ?_⟩
    rw [upd_upd, upd_upd]
    have e : putF "max_age" (.int (c.m : Int)) (putF "end_b" (.int (c.b : Int)) (putF "end_a" (.int (c.a : Int)) [])) = chF c := by
      show putF "max_age" _ (putF "end_b" _ [(("end_a" : Str), V.int (c.a : Int))]) = _
      rw [putF_by (by decide +kernel)]
      show putF "max_age" _ [(("end_a" : Str), V.int (c.a : Int)), (("end_b" : Str), V.int (c.b : Int))] = _
      rw [putF_by (by decide +kernel), putF_by (by decide +kernel)]
      rfl
    rw [e]
    exact q
def spInitI (CI : Addr) : Sp := fun vs H Q _ => ∃ (x dx : Addr) (n : Nat), vs = [.ref x, .int (n : Int)] ∧ H x = some (.ins CI dx []) ∧
  ∀ H' l g, (∀ b o, H b = some o → b ≠ x → H' b = some o) → H l = none → H g = none → l ≠ g → H' x = some (.ins CI dx (inF ⟨n, [], [], 0, 0⟩ l g)) → H' l = some (.lst []) → H' g = some (.lst []) → Q .non H'
theorem scInitI : FnScope ["self", "place_count"] ["self", "place_count"] (defScope (partS 23 0)) := ⟨rfl, rfl, rfl, by decide +kernel, rfl, by decide +kernel, by decide +kernel⟩
theorem ok_initI {k : Nat} (D : All K mg fa fd CC CI CR) : FnOk P w K mg base CX0 (k + 1) (fa 101) (fd 101) ["self", "place_count"] (spInitI CI) := by
  refine D.fI.ok scInitI (fun vs H Q E h => ?_) (fun cdv A outer s H vs Q E hr h => ?_)
  · obtain ⟨x, dx, n, rfl, _⟩ := h
    rfl
  · obtain ⟨x, dx, n, rfl, hx, q⟩ := h
    refine ⟨_, pss_cons (ps_fld (pv 0) (pv 1) rfl) (pss_cons (ps_fld (pv 0) (pe_lst pa_nil) rfl) (pss_cons (ps_fld (pv 0) (pe_lst pa_nil) rfl) (pss_cons (ps_fld (pv 0) pe_int rfl) (pss_one (ps_fld (pv 0) pe_int rfl))))), ?_⟩
    refine ⟨_, rfl, _, rfl, x, CI, dx, [], rfl, hx, D.T.clI, D.nPc, (by show 0 < 1000; decide), ?_⟩
    refine ⟨Nat.zero_le _, fun l nl => ?_⟩
    have xl : x ≠ l := ne_of_none upd_same nl
    refine ⟨_, rfl, x, CI, dx, _, rfl, (upd_ne xl).trans upd_same, D.T.clI, D.nCs, (by show 1 < 1000; decide), ?_⟩
    refine ⟨Nat.zero_le _, fun g ng => ?_⟩
    have xg : x ≠ g := ne_of_none upd_same ng
    have lg : l ≠ g := ne_of_none ((upd_ne (Ne.symm xl)).trans upd_same) ng
    refine ⟨_, rfl, x, CI, dx, _, rfl, (upd_ne xg).trans upd_same, D.T.clI, D.nAg, (by show 2 < 1000; decide), ?_⟩
    refine ⟨_, rfl, x, CI, dx, _, rfl, upd_same, D.T.clI, D.nPl, (by show 3 < 1000; decide), ?_⟩
    refine ⟨_, rfl, x, CI, dx, _, rfl, upd_same, D.T.clI, D.nHe, (by show 4 < 1000; decide), ?_⟩
    have e : putF "hours_elapsed" (.int 0) (putF "place" (.int 0) (putF "ages" (.ref g) (putF "channels" (.ref l) (putF "place_count" (.int (n : Int)) [])))) = inF ⟨n, [], [], 0, 0⟩ l g := by
      show putF "hours_elapsed" _ (putF "place" _ (putF "ages" _ (putF "channels" _ [(("place_count" : Str), V.int (n : Int))]))) = _
      rw [putF_by (by decide +kernel)]
      show putF "hours_elapsed" _ (putF "place" _ (putF "ages" _ [(("place_count" : Str), V.int (n : Int)), (("channels" : Str), V.ref l)])) = _
      rw [putF_by (by decide +kernel), putF_by (by decide +kernel)]
      show putF "hours_elapsed" _ (putF "place" _ [(("place_count" : Str), V.int (n : Int)), (("channels" : Str), V.ref l), (("ages" : Str), V.ref g)]) = _
      rw [putF_by (by decide +kernel), putF_by (by decide +kernel), putF_by (by decide +kernel)]
      show putF "hours_elapsed" _ [(("place_count" : Str), V.int (n : Int)), (("channels" : Str), V.ref l), (("ages" : Str), V.ref g), (("place" : Str), V.int 0)] = _
      rw [putF_by (by decide +kernel), putF_by (by decide +kernel), putF_by (by decide +kernel), putF_by (by decide +kernel)]
      rfl
    have nl' : H l = none := by rw [upd_ne (Ne.symm xl)] at nl; exact nl
    have ng' : H g = none := by
      rw [upd_ne (Ne.symm xg), upd_ne (Ne.symm lg), upd_ne (Ne.symm xg)] at ng
      exact ng
    refine q _ l g (fun b o eb hb => ?_) nl' ng' lg ?_ ?_ ?_
    · have bl : b ≠ l := ne_of_none eb nl'
      have bg : b ≠ g := ne_of_none eb ng'
      rw [upd_ne hb, upd_ne hb, upd_ne hb, upd_ne bg, upd_ne hb, upd_ne bl, upd_ne hb]
      exact eb
    · rw [upd_same]
      exact congrArg (fun f => some (HO.ins CI dx f)) e
    · rw [upd_ne (Ne.symm xl), upd_ne (Ne.symm xl), upd_ne (Ne.symm xl), upd_ne lg, upd_ne (Ne.symm xl), upd_same]
    · rw [upd_ne (Ne.symm xg), upd_ne (Ne.symm xg), upd_ne (Ne.symm xg), upd_same]
def spInitR (CR : Addr) : Sp := fun vs H Q _ => ∃ (x dx : Addr), vs = [.ref x] ∧ H x = some (.ins CR dx []) ∧ Q .non (upd H x (.ins CR dx [("instance", .non)]))
theorem scInitR : FnScope ["self"] ["self"] (defScope (partS 24 0)) := ⟨rfl, rfl, rfl, by decide +kernel, rfl, by decide +kernel, by decide +kernel⟩
theorem ok_initR {k : Nat} (D : All K mg fa fd CC CI CR) : FnOk P w K mg base CX0 (k + 1) (fa 102) (fd 102) ["self"] (spInitR CR) := by
  refine D.fR.ok scInitR (fun vs H Q E h => ?_) (fun cdv A outer s H vs Q E hr h => ?_)
  · obtain ⟨x, dx, rfl, _⟩ := h
    rfl
  · obtain ⟨x, dx, rfl, hx, q⟩ := h
    refine ⟨_, pss_one (ps_fld (pv 0) pe_non rfl), ?_⟩
    exact ⟨_, rfl, x, CR, dx, [], rfl, hx, D.T.clR, D.nIn, (by show 0 < 1000; decide), q⟩
end
end OL
namespace OL
open PySem PySem.Spec PyProof.Rows L2
theorem flat_zero : ∀ n : Nat, (List.replicate n [V.int 0]).flatten = nints (List.replicate n 0)
  | 0 => rfl
  | n + 1 => by
    rw [List.replicate_succ, List.flatten_cons, flat_zero n, List.replicate_succ]
    rfl
theorem Ok.hm {I : Ins} (K : Ok I) : ∀ c ∈ I.cs, c.m ≤ 3 := fun c hc => (K.ch c hc).2.2.2
section
variable {P : Program} {w : World} {K : PySem.W.Frag} {mg : Str → Option Value} {base : Heap} {fa : Nat → Addr} {fd : Nat → FuncData} {CC CI CR : Addr}
/-! ### current_state, fresh_ages -/
def spCur (CC CI : Addr) : Sp := fun vs H Q _ => ∃ (a : Addr) (I : Ins) (N : Addr → Prop), vs = [.ref a] ∧ InsAt CC CI H a I N ∧
  ∀ H' t, Same H H' → H t = none → StAt H' t I.st → Q (.ref t) H'
theorem sc25 : FnScope ["instance"] ["instance"] (defScope (topS 25)) := ⟨rfl, rfl, rfl, by decide +kernel, rfl, by decide +kernel, by decide +kernel⟩
theorem ok25 {k : Nat} (D : All K mg fa fd CC CI CR) : FnOk P w K mg base CX0 (k + 1) (fa 25) (fd 25) ["instance"] (spCur CC CI) := by
  refine D.d25.F.ok sc25 (fun vs H Q E h => ?_) (fun cdv A outer s H vs Q E hr h => ?_)
  · obtain ⟨a, I, N, rfl, _⟩ := h
    rfl
  · obtain ⟨a, I, N, rfl, ⟨dx, l, g, as, J⟩, q⟩ := h
    refine ⟨_, pss_one (ps_ret (pe_tup (pa_cons (pe_fld (pv 0) rfl) (pa_cons (pe_callTy call_tuple_of (by rfl) D.T.bTuple boot_tuple (pa_cons (pe_fld (pv 0) rfl) pa_nil)) pa_nil)))), ?_⟩
    refine ⟨_, rfl, a, CI, dx, _, _, rfl, J.ho, D.T.clI, D.nPl, inF_pl I l g, ?_⟩
    refine ⟨_, rfl, a, CI, dx, _, _, rfl, J.ho, D.T.clI, D.nAg, inF_ag I l g, g, _, rfl, .inl ⟨.inl (.inl J.hg), fun u nu => ⟨by show 2 ≤ sizeLine; decide, fun v nv => ?_⟩⟩⟩
    have s1 := same_upd (o := .tup (nints I.ag)) nu
    have s2 := same_upd (o := .tup [V.int (I.pl : Nat), V.ref u]) nv
    exact q _ v (s1.trans s2) (s1.free nv) (StAt.mk (s := I.st) (b := u) upd_same (s2 _ _ upd_same))
def spFresh (CC CI : Addr) : Sp := fun vs H Q _ => ∃ (a : Addr) (I : Ins) (N : Addr → Prop), vs = [.ref a] ∧ InsAt CC CI H a I N ∧ I.cs.length ≤ 3 ∧
  ∀ H' q, Same H H' → H q = none → H' q = some (.lst (nints (List.replicate I.cs.length 0))) → Q (.ref q) H'
theorem sc26 : FnScope ["instance"] ["instance"] (defScope (topS 26)) := ⟨rfl, rfl, rfl, by decide +kernel, rfl, by decide +kernel, by decide +kernel⟩
theorem ok26 {k : Nat} (D : All K mg fa fd CC CI CR) : FnOk P w K mg base CX0 (k + 1) (fa 26) (fd 26) ["instance"] (spFresh CC CI) := by
  refine D.d26.F.ok sc26 (fun vs H Q E h => ?_) (fun cdv A outer s H vs Q E hr h => ?_)
  · obtain ⟨a, I, N, rfl, _⟩ := h
    rfl
  · obtain ⟨a, I, N, rfl, ⟨dx, l, g, as, J⟩, h3, q⟩ := h
    refine ⟨_, pss_one (ps_ret (pe_op op_rep (pe_lst (pa_cons pe_int pa_nil)) (pe_callB call_len_seq (by rfl) D.T.bLen PySem.boot_len (pa_cons (pe_fld (pv 0) rfl) pa_nil)))), ?_⟩
    refine ⟨by show 1 ≤ sizeLine; decide, fun u nu => ?_⟩
    have s1 := same_upd (o := .lst [V.int 0]) nu
    refine ⟨_, rfl, a, CI, dx, _, _, rfl, s1 _ _ J.ho, D.T.clI, D.nCs, inF_cs I l g, l, _, rfl, .inl (.inl (.inl (s1 _ _ J.hl))), ?_⟩
    have len : (as.map V.ref).length = I.cs.length := by rw [List.length_map, Paired.length J.hc]
    rw [len]
    refine ⟨u, _, _, rfl, rfl, upd_same, by omega, by omega, ?_, fun v nv => ?_⟩
    · rw [Int.toNat_natCast]
      exact Nat.le_of_lt (small1000 (by show 1 * _ ≤ 1000; omega))
    · rw [Int.toNat_natCast, flat_zero]
      exact q _ v (s1.trans (same_upd nv)) (s1.free nv) upd_same
/-! ### change_max_age -/
theorem paired_set {R R' : Addr → Ch → Prop} {c : Addr} {y : Ch} (other : ∀ b x, b ≠ c → R b x → R' b x) (here : R' c y) : ∀ {as : List Addr} {cs : List Ch} {i : Nat}, Paired R as cs → as.Nodup → as[i]? = some c → Paired R' as (cs.set i y)
  | _, _, _, .nil, _, e => by simp at e
  | _ :: as, _ :: cs, 0, .cons r t, nd, e => by
    obtain rfl := Option.some.inj e
    obtain ⟨n1, n2⟩ := List.nodup_cons.mp nd
    refine .cons here ?_
    clear nd n2 r e
    induction t with
    | nil => exact .nil
    | cons r' t' ih =>
      refine .cons (other _ _ (fun z => n1 (z ▸ List.mem_cons_self)) r') (ih fun m => n1 (List.mem_cons_of_mem _ m))
  | b :: as, x :: cs, i + 1, .cons r t, nd, e => by
    obtain ⟨n1, n2⟩ := List.nodup_cons.mp nd
    have e' : as[i]? = some c := e
    exact .cons (other _ _ (fun z => n1 (z ▸ List.mem_of_getElem? e')) r) (paired_set other here t n2 e')
theorem chF_set (c : Ch) (m : Nat) : putF "max_age" (.int m) (chF c) = chF { c with m := m } := by
  unfold chF
  rw [putF_by (by decide +kernel), putF_by (by decide +kernel), putF_at]
theorem ins_ne {CC CI dx dy : Addr} {I : Ins} {l g : Addr} {c : Ch} : HO.ins CI dx (inF I l g) ≠ HO.ins CC dy (chF c) := fun e => by
  have h := congrArg (fun o => match o with
    | HO.ins _ _ fs => fs.length
    | _ => 0) e
  exact absurd (show 5 = 3 from h) (by decide)
theorem getD_of {α : Type} {l : List α} {i : Nat} {x d : α} (h : l[i]? = some x) : l.getD i d = x := by
  rw [List.getD_eq_getElem?_getD, h]
  rfl
def spSetM (CC CI : Addr) : Sp := fun vs H Q _ => ∃ (a : Addr) (I : Ins) (N : Addr → Prop) (i m : Nat), vs = [.ref a, .int (i : Int), .int (m : Int)] ∧ InsAt CC CI H a I N ∧ (i < I.cs.length ∧ I.ag.length = I.cs.length) ∧
  ∀ H', Keep N H H' → InsAt CC CI H' a (setM I i m) N → Q .non H'
theorem sc27 : FnScope ["instance", "number", "max_age"] ["instance", "number", "max_age"] (defScope (topS 27)) := ⟨rfl, rfl, rfl, by decide +kernel, rfl, by decide +kernel, by decide +kernel⟩
theorem ok27 {k : Nat} (D : All K mg fa fd CC CI CR) : FnOk P w K mg base CX0 (k + 1) (fa 27) (fd 27) ["instance", "number", "max_age"] (spSetM CC CI) := by
  refine D.d27.F.ok sc27 (fun vs H Q E h => ?_) (fun cdv A outer s H vs Q E hr h => ?_)
  · obtain ⟨a, I, N, i, m, rfl, _⟩ := h
    rfl
  · obtain ⟨a, I, N, i, m, rfl, ⟨dx, l, g, as, J⟩, ⟨hi, hlen⟩, q⟩ := h
    refine ⟨_, pss_cons (ps_fld (pe_ix ix_list (pe_fld (pv 0) rfl) (pv 1) (fun _ _ => rfl)) (pv 2) rfl)
      (pss_one (ps_asg (pe_callB (call_min2 rfl) (by rfl) D.T.bMin (by decide +kernel) (pa_cons (pe_ix ix_list (pe_fld (pv 0) rfl) (pv 1) (fun _ _ => rfl)) (pa_cons (pv 2) pa_nil))) (pg_sub (pe_fld (pv 0) rfl) (pv 1) set_list))), ?_⟩
    obtain ⟨as', hl', lenA, each⟩ := J.chs.len
    have ea : as' = as := by
      have := J.hl.symm.trans hl'
      have e := HO.lst.inj (Option.some.inj this)
      have inj : ∀ {a b : List Addr}, a.map V.ref = b.map V.ref → b = a := by
        intro a
        induction a with
        | nil => intro b e; cases b with
          | nil => rfl
          | cons y b => simp at e
        | cons x a ih => intro b e; cases b with
          | nil => simp at e
          | cons y b =>
            simp only [List.map_cons, List.cons.injEq, V.ref.injEq] at e
            rw [e.1, ih e.2]
      exact inj e
    subst ea
    obtain ⟨c, hc, dc, hch⟩ := each i (chAt I i) (chAt_get hi)
    have hag : I.ag[i]? = some (I.ag.getD i 0) := by
      rw [List.getD_eq_getElem?_getD, List.getElem?_eq_getElem (by omega)]
      rfl
    refine ⟨_, rfl, _, rfl, a, CI, dx, _, _, rfl, J.ho, D.T.clI, D.nCs, inF_cs I l g, _, rfl, l, _, _, _, rfl, rfl, .inl (.inl J.hl), atI_nat (j := i) (by rw [List.getElem?_map, hc]; rfl), ?_⟩
    refine ⟨c, CC, dc, _, rfl, hch, D.T.cl, D.T.nM, (by show 3 < 1000; decide), ?_⟩
    rw [chF_set]
    have ac : a ≠ c := ne_of J.ho hch ins_ne
    have lc : l ≠ c := ne_of J.hl hch (fun z => nomatch z)
    have gc : g ≠ c := ne_of J.hg hch (fun z => nomatch z)
    generalize hH1 : upd H c (.ins CC dc (chF { chAt I i with m := m })) = H1
    have up : ∀ {b : Addr}, b ≠ c → H1 b = H b := fun hb => by rw [← hH1, upd_ne hb]
    have ho1 : H1 a = some (.ins CI dx (inF I l g)) := (up ac).trans J.ho
    have hg1 : H1 g = some (.lst (nints I.ag)) := (up gc).trans J.hg
    refine ⟨_, rfl, a, CI, dx, _, _, rfl, ho1, D.T.clI, D.nAg, inF_ag I l g, _, rfl, g, _, _, _, rfl, rfl, .inl (.inl hg1), atI_nat (j := i) (nints_get hag), ?_⟩
    refine ⟨_, rfl, _, _, rfl, ?_⟩
    refine ⟨_, rfl, a, CI, dx, _, _, rfl, ho1, D.T.clI, D.nAg, inF_ag I l g, ?_⟩
    refine ⟨_, rfl, g, _, _, i, rfl, rfl, hg1, ?_, ?_⟩
    · rw [nints_len]
      unfold ixN
      rw [if_pos (by omega), if_pos (by omega)]
      rfl
    have emin : (if (m : Int) < ((I.ag.getD i 0 : Nat) : Int) then (m : Int) else ((I.ag.getD i 0 : Nat) : Int)) = ((min (I.ag.getD i 0) m : Nat) : Int) := by
      split <;> omega
    rw [emin, nints_set]
    have ga : a ≠ g := ne_of ho1 hg1 (fun z => nomatch z)
    refine q _ (fun b o eb nb => ?_) ⟨dx, l, g, as', ?_, ?_, ?_, J.nd, upd_same, J.lg, J.na, J.nl, J.ng, J.ns⟩
    · rw [upd_ne (fun z : b = g => J.ng (z ▸ nb)), up (fun z : b = c => J.ns _ (List.mem_of_getElem? hc) (z ▸ nb))]
      exact eb
    · rw [upd_ne ga]
      exact ho1
    · rw [upd_ne J.lg, up lc]
      exact J.hl
    · refine paired_set (R := ChAt CC H) (c := c) (fun b x hb => ?_) ?_ J.hc J.nd hc
      · rintro ⟨d, e⟩
        refine ⟨d, ?_⟩
        rw [upd_ne (ne_of ((up hb).trans e) hg1 (fun z => nomatch z)), up hb]
        exact e
      · refine ⟨dc, ?_⟩
        rw [upd_ne (Ne.symm gc), ← hH1, upd_same]
end
end OL
namespace OL
open PySem PySem.Spec PyProof.Rows L2
/-- what was tracked -/
def Old (H : Hp) : Addr → Prop := fun b => H b ≠ none
theorem Old.no {H : Hp} {b : Addr} (h : H b = none) : ¬ Old H b := fun z => z h
theorem Old.trk (H : Hp) : Trk (Old H) H := fun b n => by
  cases e : H b with
  | none => exact absurd e n
  | some o => exact ⟨o, rfl⟩
theorem Keep.same {H H1 H' : Hp} (s : Same H H1) (e : Keep (Old H) H1 H') : Same H H' := fun b o h => e b o (s b o h) (fun z => by rw [h] at z; cases z)
theorem Trk.old {H H' : Hp} (s : Same H H') : Trk (Old H) H' := fun b n => by
  obtain ⟨o, e⟩ := Old.trk H b n
  exact ⟨o, s _ _ e⟩
theorem paired_snocC {R : Addr → Ch → Prop} : ∀ {as : List Addr} {cs : List Ch} {a : Addr} {c : Ch}, Paired R as cs → R a c → Paired R (as ++ [a]) (cs ++ [c])
  | _, _, _, _, .nil, r => .cons r .nil
  | _, _, _, _, .cons q t, r => .cons q (paired_snocC t r)
theorem nodup_snoc {as : List Addr} {c : Addr} (h : as.Nodup) (n : c ∉ as) : (as ++ [c]).Nodup := by
  rw [List.nodup_append]
  exact ⟨h, by simp, fun x hx y hy e => n (by rw [List.mem_singleton.mp hy] at e; exact e ▸ hx)⟩
theorem paired_memC {R : Addr → Ch → Prop} {a : Addr} : ∀ {as : List Addr} {cs : List Ch}, Paired R as cs → a ∈ as → ∃ c, R a c
  | _, _, .cons r t, m => by
    rcases List.mem_cons.mp m with e | m
    · exact ⟨_, e ▸ r⟩
    · exact paired_memC t m
section
variable {P : Program} {w : World} {K : PySem.W.Frag} {mg : Str → Option Value} {base : Heap} {fa : Nat → Addr} {fd : Nat → FuncData} {CC CI CR : Addr}
/-! ### copy_of -/
def spCopy (CC CI : Addr) : Sp := fun vs H Q _ => ∃ (a : Addr) (I : Ins) (N : Addr → Prop), vs = [.ref a] ∧ InsAt CC CI H a I N ∧ I.cs.length ≤ 3 ∧
  ∀ H' x, Same H H' → H x = none → InsAt CC CI H' x I (Old H) → Q (.ref x) H'
theorem sc28 : FnScope ["instance", "copied", "channel"] ["instance"] (defScope (topS 28)) := ⟨rfl, rfl, rfl, by decide +kernel, rfl, by decide +kernel, by decide +kernel⟩
theorem ok28 {k : Nat} (D : All K mg fa fd CC CI CR) : FnOk P w K mg base CX0 (k + 3) (fa 28) (fd 28) ["instance"] (spCopy CC CI) := by
  have GI : FnOk P w K mg base CX0 (k + 1) (fa 101) (fd 101) ["self", "place_count"] (spInitI CI) := ok_initI D
  have GC : FnOk P w K mg base CX0 (k + 1) (fa 100) (fd 100) ["self", "end_a", "end_b", "max_age"] (spInitC CC) := ok_initC D
  refine D.d28.F.ok sc28 (fun vs H Q E h => ?_) (fun cdv A outer s H vs Q E hr h => ?_)
  · obtain ⟨a, I, N, rfl, _⟩ := h
    rfl
  · obtain ⟨a, I, N, rfl, ⟨dx, l, g, as, J⟩, h3, q⟩ := h
    have nd := sc28.nd
    refine ⟨_, pss_cons (ps_set (i := 1) nd rfl (.inl rfl) (pe_make D.mI GI hr (by rfl) D.gI D.bI .nil pass0 (pa_cons (pe_fld (pv 0) rfl) pa_nil)))
      (pss_cons (ps_for PassesOwn.never rfl (pi_list (pe_fld (pv 0) rfl)) (pg_name (i := 2) nd rfl (.inl rfl))
        (pss_one (ps_expr (pe_bm PySem.F.plainAttrs_list PySem.F.slot_list_append PySem.F.type_list_append mt_append (pe_fld (pv 1) rfl)
          (pa_cons (pe_make D.mC GC hr (by rfl) D.gC D.bC .nil pass0 (pa_cons (pe_fld (pv 2) rfl) (pa_cons (pe_fld (pv 2) rfl) (pa_cons (pe_fld (pv 2) rfl) pa_nil)))) pa_nil)))))
      (pss_cons (ps_fld (pv 1) (pe_callTy call_list_of (by rfl) D.T.bList (by decide +kernel) (pa_cons (pe_fld (pv 0) rfl) pa_nil)) rfl)
      (pss_cons (ps_fld (pv 1) (pe_fld (pv 0) rfl) rfl)
      (pss_cons (ps_fld (pv 1) (pe_fld (pv 0) rfl) rfl)
      (pss_one (ps_ret (pv 1))))))), ?_⟩
    refine ⟨_, rfl, a, CI, dx, _, _, rfl, J.ho, D.T.clI, D.nPc, inF_pc I l g, ?_⟩
    intro x dy nx ndy dyx
    refine ⟨x, dy, I.pc, rfl, upd_same, fun H1 l1 g1 kp nl1 ng1 lg1 hx1 hl1 hg1 => ⟨rfl, ?_⟩⟩
    have nlH : H l1 = none := by
      by_cases e : l1 = x
      · rw [e]
        exact nx
      · rw [upd_ne e] at nl1
        by_cases e2 : l1 = dy
        · rw [e2]
          exact ndy
        · rw [upd_ne e2] at nl1
          exact nl1
    have ngH : H g1 = none := by
      by_cases e : g1 = x
      · rw [e]
        exact nx
      · rw [upd_ne e] at ng1
        by_cases e2 : g1 = dy
        · rw [e2]
          exact ndy
        · rw [upd_ne e2] at ng1
          exact ng1
    have s1 : Same H H1 := fun b o e => kp b o (by rw [upd_ne (ne_of_none e nx), upd_ne (ne_of_none e ndy)]; exact e) (ne_of_none e nx)
    have hL : SqL K H1 l (as.map V.ref) := .inl (.inl (s1 _ _ J.hl))
    obtain ⟨as', hl', lenA, each⟩ := J.chs.len
    have ea : (as.map V.ref) = as'.map V.ref := HO.lst.inj (Option.some.inj (J.hl.symm.trans hl'))
    refine ⟨_, rfl, a, CI, dx, _, _, rfl, s1 _ _ J.ho, D.T.clI, D.nCs, inF_cs I l g, l, rfl, ⟨_, hL⟩, ?_⟩
    refine for_list (K := K) (xs := as.map V.ref) (fun i σ H' => ∃ y2 cp, σ = [some (.ref a), some (.ref x), y2] ∧ Same H H' ∧ InsD CC CI H' x ⟨I.pc, I.cs.take i, [], 0, 0⟩ (Old H) dy l1 g1 cp)
      ⟨none, [], rfl, s1, ⟨hx1, hl1, .nil, List.nodup_nil, hg1, lg1, Old.no nx, Old.no nlH, Old.no ngH, fun b hb => nomatch hb⟩⟩ (fun i σ H' _ ⟨_, _, _, sm, _⟩ => .inl (.inl (sm _ _ J.hl))) ?_ ?_
    · rintro i y σ H2 hy ⟨y2, cp, rfl, sm, J2⟩
      rw [ea] at hy
      obtain ⟨c, hc, rfl⟩ := map_get hy
      have hi : i < I.cs.length := by
        have := (List.getElem?_eq_some_iff.mp hc).1
        omega
      obtain ⟨c', hc', hch⟩ := each i I.cs[i] (List.getElem?_eq_getElem hi)
      rw [hc] at hc'
      obtain rfl := Option.some.inj hc'
      obtain ⟨dc, hch⟩ := hch
      have hch2 := sm _ _ hch
      refine ⟨_, rfl, x, CI, dy, _, _, rfl, J2.ho, D.T.clI, D.nCs, inF_cs _ l1 g1, .inl ⟨rfl, _, .inl (.inl J2.hl)⟩, ?_⟩
      refine ⟨_, rfl, c, CC, dc, _, _, rfl, hch2, D.T.cl, D.T.nA, chF_a _, _, rfl, c, CC, dc, _, _, rfl, hch2, D.T.cl, D.T.nB, chF_b _, _, rfl, c, CC, dc, _, _, rfl, hch2, D.T.cl, D.T.nM, chF_m _, ?_⟩
      intro z dz nz ndz dzz
      refine ⟨z, dz, I.cs[i], rfl, upd_same, rfl, ?_⟩
      rw [upd_upd]
      generalize hH3 : upd (upd H2 dz (.own z)) z (.ins CC dz (chF I.cs[i])) = H3
      have s3 : Same H2 H3 := fun b o e => by rw [← hH3, upd_ne (ne_of_none e nz), upd_ne (ne_of_none e ndz)]; exact e
      have J3 := J2.same s3
      have hz3 : H3 z = some (.ins CC dz (chF I.cs[i])) := by rw [← hH3, upd_same]
      have lenCp : cp.length ≤ 3 := by
        rw [Paired.length J2.hc]
        show (I.cs.take i).length ≤ 3
        rw [List.length_take]
        omega
      have zcp : z ∉ cp := fun m => by
        obtain ⟨c0, d0, e0⟩ := paired_memC J2.hc m
        rw [nz] at e0
        cases e0
      refine ⟨l1, _, _, rfl, rfl, J3.hl, ?_, some (.ref c), cp ++ [z], rfl, fun b o e => ?_, ?_⟩
      · rw [List.length_map]
        exact small1000 (by omega)
      · rw [upd_ne (ne_of_none e nlH)]
        exact s3 _ _ (sm _ _ e)
      · have zl : z ≠ l1 := ne_of hz3 J3.hl (fun q => nomatch q)
        refine ⟨?_, ?_, ?_, nodup_snoc J3.nd zcp, ?_, J3.lg, J3.na, J3.nl, J3.ng, fun b hb => ?_⟩
        · rw [upd_ne (ne_of J3.ho J3.hl (fun q => nomatch q))]
          exact J3.ho
        · rw [upd_same, List.map_append]
          rfl
        · show Paired _ _ (I.cs.take (i + 1))
          rw [take_snoc (List.getElem?_eq_getElem hi)]
          have up : ∀ b c, ChAt CC H3 b c → ChAt CC (upd H3 l1 (.lst (cp.map V.ref ++ [V.ref z]))) b c := fun b c ⟨d, e⟩ => ⟨d, by rw [upd_ne (ne_of e J3.hl (fun q => nomatch q))]; exact e⟩
          exact paired_snocC (Paired.mapP J3.hc up) (up _ _ ⟨dz, hz3⟩)
        · rw [upd_ne (Ne.symm J3.lg)]
          exact J3.hg
        · rcases List.mem_append.mp hb with hb | hb
          · exact J3.ns b hb
          · rw [List.mem_singleton.mp hb]
            exact Old.no (sm.free nz)
    · rintro σ H2 ⟨y2, cp, rfl, sm, J2⟩
      rw [ea, List.length_map, lenA, List.take_length] at J2
      have ho2 := sm _ _ J.ho
      refine ⟨_, rfl, a, CI, dx, _, _, rfl, ho2, D.T.clI, D.nAg, inF_ag I l g, g, _, rfl, .inl (.inl (.inl (sm _ _ J.hg))), fun u nu => ?_⟩
      have su := same_upd (o := .lst (nints I.ag)) nu
      have J3 := J2.same su
      have hu : upd H2 u (.lst (nints I.ag)) u = some (.lst (nints I.ag)) := upd_same
      generalize upd H2 u (.lst (nints I.ag)) = H3 at su J3 hu
      refine ⟨_, rfl, x, CI, dy, _, rfl, J3.ho, D.T.clI, D.nAg, (by show 5 < 1000; decide), ?_⟩
      rw [inF_setAg]
      have xa : a ≠ x := ne_of_none J.ho nx
      refine ⟨_, rfl, a, CI, dx, _, _, rfl, (upd_ne xa).trans (su _ _ ho2), D.T.clI, D.nPl, inF_pl I l g, ?_⟩
      refine ⟨_, rfl, x, CI, dy, _, rfl, upd_same, D.T.clI, D.nPl, (by show 5 < 1000; decide), ?_⟩
      rw [inF_setPl, upd_upd]
      refine ⟨_, rfl, a, CI, dx, _, _, rfl, (upd_ne xa).trans (su _ _ ho2), D.T.clI, D.nHe, inF_he I l g, ?_⟩
      refine ⟨_, rfl, x, CI, dy, _, rfl, upd_same, D.T.clI, D.nHe, (by show 5 < 1000; decide), ?_⟩
      rw [inF_setHe, upd_upd]
      have nuH : H u = none := sm.free nu
      refine ⟨_, rfl, q _ x (fun b o e => ?_) nx ⟨dy, l1, u, cp, upd_same, ?_, ?_, J3.nd, ?_, ?_, J3.na, J3.nl, Old.no nuH, J3.ns⟩⟩
      · rw [upd_ne (ne_of_none e nx)]
        exact su _ _ (sm _ _ e)
      · rw [upd_ne (ne_of J3.hl J3.ho (fun q => nomatch q))]
        exact J3.hl
      · exact Paired.mapP J3.hc fun b c ⟨d, e⟩ => ⟨d, by rw [upd_ne (ne_of e J3.ho (Ne.symm ins_ne))]; exact e⟩
      · rw [upd_ne (ne_of hu J3.ho (fun q => nomatch q))]
        exact hu
      · exact ne_of_none J2.hl nu
/-! ### is_in_safe_state -/
def spNow (CC CI : Addr) : Sp := fun vs H Q _ => ∃ (a : Addr) (I : Ins) (N : Addr → Prop), vs = [.ref a] ∧ InsAt CC CI H a I N ∧ Ok I ∧ ∀ H', Same H H' → Q (.bl (sf I)) H'
theorem sc30 : FnScope ["instance"] ["instance"] (defScope (topS 30)) := ⟨rfl, rfl, rfl, by decide +kernel, rfl, by decide +kernel, by decide +kernel⟩
theorem ok30 {k : Nat} (D : All K mg fa fd CC CI CR) : FnOk P w K mg base CX0 (k + 7) (fa 30) (fd 30) ["instance"] (spNow CC CI) := by
  have G25 : FnOk P w K mg base CX0 (k + 6) (fa 25) (fd 25) ["instance"] (spCur CC CI) := ok25 D
  have GS : FnOk P w K mg base CX0 (k + 6) (fa 10) (fd 10) ["place_count", "channels"] (spSafe w CC) := ok_safe D.Z D.M D.T
  refine D.d30.F.ok sc30 (fun vs H Q E h => ?_) (fun cdv A outer s H vs Q E hr h => ?_)
  · obtain ⟨a, I, N, rfl, _⟩ := h
    rfl
  · obtain ⟨a, I, N, rfl, ⟨dx, l, g, as, J⟩, O, q⟩ := h
    refine ⟨_, pss_one (ps_ret (pe_sin (w := w) hr (pe_fn D.d25 G25 hr (by rfl) (pa_cons (pv 0) pa_nil)) (pe_fn D.Z.sf GS hr (by rfl) (pa_cons (pe_fld (pv 0) rfl) (pa_cons (pe_fld (pv 0) rfl) pa_nil))))), ?_⟩
    refine ⟨_, rfl, a, I, N, rfl, ⟨dx, l, g, as, J⟩, fun H1 t s1 nt ht => ?_⟩
    have J1 := J.same s1
    refine ⟨_, rfl, a, CI, dx, _, _, rfl, J1.ho, D.T.clI, D.nPc, inF_pc I l g, _, rfl, a, CI, dx, _, _, rfl, J1.ho, D.T.clI, D.nCs, inF_cs I l g, ?_⟩
    refine ⟨I.pc, l, I.cs, rfl, J1.chs, ⟨O.few, O.pc, O.hm⟩, fun H2 d s2 nd ⟨xs, hd, ks, ex⟩ => ?_⟩
    refine ⟨t, d, _, xs, rfl, rfl, .inl hd, ks, ht.same s2, ?_⟩
    have ec : decide (ck I.st ∈ xs.map (·.1)) = sf I := by
      rw [ex]
      exact decide_eq_decide.mpr mem_ck
    rw [ec]
    exact q H2 (s1.trans s2)
/-! ### would_be_safe, is_tight -/
def spWould (CC CI : Addr) : Sp := fun vs H Q _ => ∃ (a : Addr) (I : Ins) (N : Addr → Prop) (i m : Nat), vs = [.ref a, .int (i : Int), .int (m : Int)] ∧ InsAt CC CI H a I N ∧ (Ok I ∧ i < I.cs.length ∧ 1 ≤ m ∧ m ≤ 3) ∧
  ∀ H', Same H H' → Q (.bl (sf (setM I i m))) H'
theorem sc31 : FnScope ["instance", "number", "max_age", "tried"] ["instance", "number", "max_age"] (defScope (topS 31)) := ⟨rfl, rfl, rfl, by decide +kernel, rfl, by decide +kernel, by decide +kernel⟩
theorem ok31 {k : Nat} (D : All K mg fa fd CC CI CR) : FnOk P w K mg base CX0 (k + 8) (fa 31) (fd 31) ["instance", "number", "max_age"] (spWould CC CI) := by
  have G28 : FnOk P w K mg base CX0 (k + 7) (fa 28) (fd 28) ["instance"] (spCopy CC CI) := ok28 (k := k + 4) D
  have G27 : FnOk P w K mg base CX0 (k + 7) (fa 27) (fd 27) ["instance", "number", "max_age"] (spSetM CC CI) := ok27 D
  have G30 : FnOk P w K mg base CX0 (k + 7) (fa 30) (fd 30) ["instance"] (spNow CC CI) := ok30 D
  refine D.d31.F.ok sc31 (fun vs H Q E h => ?_) (fun cdv A outer s H vs Q E hr h => ?_)
  · obtain ⟨a, I, N, i, m, rfl, _⟩ := h
    rfl
  · obtain ⟨a, I, N, i, m, rfl, J, ⟨O, hi, h1, h3⟩, q⟩ := h
    refine ⟨_, pss_cons (ps_set (i := 3) sc31.nd rfl (.inl rfl) (pe_fn D.d28 G28 hr (by rfl) (pa_cons (pv 0) pa_nil)))
      (pss_cons (ps_expr (pe_fn D.d27 G27 hr (by rfl) (pa_cons (pv 3) (pa_cons (pv 1) (pa_cons (pv 2) pa_nil)))))
      (pss_one (ps_ret (pe_fn D.d30 G30 hr (by rfl) (pa_cons (pv 3) pa_nil))))), ?_⟩
    refine ⟨_, rfl, a, I, N, rfl, J, O.few, fun H1 x s1 nx J1 => ?_⟩
    refine ⟨_, rfl, _, rfl, _, rfl, x, I, _, i, m, rfl, J1, ⟨hi, O.len⟩, fun H2 k2 J2 => ?_⟩
    refine ⟨_, rfl, x, _, _, rfl, J2, ok_setM O hi h1 h3, fun H3 s3 => ?_⟩
    exact q H3 ((Keep.same s1 k2).trans s3)
def spTight (CC CI : Addr) : Sp := fun vs H Q _ => ∃ (a : Addr) (I : Ins) (N : Addr → Prop) (i : Nat), vs = [.ref a, .int (i : Int)] ∧ InsAt CC CI H a I N ∧ (Ok I ∧ i < I.cs.length) ∧
  ∀ H', Same H H' → Q (.bl (tightB I i)) H'
theorem sc32 : FnScope ["instance", "number", "max_age"] ["instance", "number"] (defScope (topS 32)) := ⟨rfl, rfl, rfl, by decide +kernel, rfl, by decide +kernel, by decide +kernel⟩
theorem ok32 {k : Nat} (D : All K mg fa fd CC CI CR) : FnOk P w K mg base CX0 (k + 9) (fa 32) (fd 32) ["instance", "number"] (spTight CC CI) := by
  have G31 : FnOk P w K mg base CX0 (k + 8) (fa 31) (fd 31) ["instance", "number", "max_age"] (spWould CC CI) := ok31 D
  refine D.d32.F.ok sc32 (fun vs H Q E h => ?_) (fun cdv A outer s H vs Q E hr h => ?_)
  · obtain ⟨a, I, N, i, rfl, _⟩ := h
    rfl
  · obtain ⟨a, I, N, i, rfl, ⟨dx, l, g, as, J⟩, ⟨O, hi⟩, q⟩ := h
    refine ⟨_, pss_cons (ps_set (i := 2) sc32.nd rfl (.inl rfl) (pe_fld (pe_ix ix_list (pe_fld (pv 0) rfl) (pv 1) (fun _ _ => rfl)) rfl))
      (pss_one (ps_ret (pe_or (pe_cmpR op_eq (pv 2) (pe_c (by rfl) D.c1) (nomark _)) (pe_one (pe_not (pe_fn D.d31 G31 hr (by rfl) (pa_cons (pv 0) (pa_cons (pv 1) (pa_cons (pe_op op_sub (pv 2) pe_int) pa_nil))))))))), ?_⟩
    obtain ⟨as', hl', lenA, each⟩ := J.chs.len
    obtain ⟨c, hc, dc, hch⟩ := each i (chAt I i) (chAt_get hi)
    refine ⟨_, rfl, a, CI, dx, _, _, rfl, J.ho, D.T.clI, D.nCs, inF_cs I l g, _, rfl, l, _, _, _, rfl, rfl, .inl (.inl hl'), atI_nat (j := i) (by rw [List.getElem?_map, hc]; rfl), ?_⟩
    refine ⟨c, CC, dc, _, _, rfl, hch, D.T.cl, D.T.nM, chF_m _, ?_⟩
    have km := (O.ch _ (chAt_mem hi)).2.2
    refine ⟨_, rfl, rfl, _, rfl, ?_⟩
    unfold tightB at q
    rw [show decide (V.int ((chAt I i).m : Int) = V.int 1) = decide ((chAt I i).m = 1) from nat_eq (j := 1)]
    by_cases e : (chAt I i).m = 1
    · rw [decide_eq_true e] at q ⊢
      exact iteT (q H (Same.refl H))
    · rw [decide_eq_false e] at q ⊢
      refine iteF ⟨_, rfl, _, rfl, _, rfl, _, _, rfl, rfl, ?_⟩
      have em : ((chAt I i).m : Int) - 1 = (((chAt I i).m - 1 : Nat) : Int) := by omega
      refine ⟨a, I, N, i, (chAt I i).m - 1, by show [V.ref a, V.int (i : Int), V.int (((chAt I i).m : Int) - 1)] = _; rw [em], ⟨dx, l, g, as, J⟩, ⟨O, hi, by omega, by omega⟩, fun H1 s1 => ?_⟩
      exact ⟨_, rfl, q H1 s1⟩
end
end OL
namespace L2
open PySem PySem.Spec PyProof.Rows
theorem sd_notIn {X : Cx} {pins : List (Addr × Obj)} {σ : St} {H : Hp} {s : Shared} {a d : Addr} {A : Around} {E : Value → Shared → Prop} {xs : List (SK × Addr)} {k : SK} {Q : Value → Shared → Prop} (hu : A.units + 64 < cLine)
    (I : Inv X pins σ H s) (e : Rd H d (SD X.w d xs)) (ks : KeysAt H xs) (ka : KeyAt H a k) (h : ∀ s', Inv X pins σ H s' → Q (.bool (!decide (k ∈ xs.map (·.1)))) s') :
    wpAny (model X.prog X.w) A (compareOp .NotIn (.ref a) (.ref d)) Q E s := by
  have x := sd_rd I.hok e
  refine wpAny_notIn_heap (knd := nestedKind X.prog X.w) (k := nkey k) (by show A.units + 1 + 8 < cLine; omega) (keyAt_is I.hok ka) x.2.1 (sd_of I.hok ks x) ?_
  rw [atKey_sdx]
  exact h _ (I.tok _)
/-- y not in d -/
def tSNotIn (w : World) (ty td : TE) : TE := fun σ H Q => ty σ H fun y H1 => td σ H1 fun x H2 => ∃ (a d : Addr) (k : SK) (xs : List (SK × Addr)), y = .ref a ∧ x = .ref d ∧ Rd H2 d (SD w d xs) ∧ KeysAt H2 xs ∧ KeyAt H2 a k ∧
  Q (.bl (!decide (k ∈ xs.map (·.1)))) H2
theorem pt_snotin {X : Cx} {w : World} {k : Nat} {i o : Expr} {pos : Pos} {ty td : TE} (hr : Room k X.A) (hi : PE X i ty) (ho : PE X o td) (hb : behindInMarks .NotIn o = false := by rfl) (hw : X.w = w := by rfl) : PT X (.Compare i [.NotIn] [o] pos) (tB (tSNotIn w ty td)) := by
  subst hw
  refine pt_cmp (op := .NotIn) ⟨fun pins s σ H Q I h => ?_⟩ hb
  refine thn (hi.run pins s σ H _ I h) fun iv s1 ⟨y, H1, I1, ry, q1⟩ => thn (ho.run pins s1 σ H1 _ I1 q1) fun u s2 ⟨x, H2, I2, rx, a, d, k, xs, ey, ex, e1, e2, e3, q2⟩ => ?_
  subst ex ey
  obtain rfl : u = Value.ref d := rx
  obtain rfl : iv = Value.ref a := ry
  exact sd_notIn hr.units I2 e1 e2 e3 fun s3 I3 => ⟨.bl _, H2, I3, rfl, q2⟩
end L2
namespace OL
open PySem PySem.Spec PyProof.Rows L2
/-! ### all maximum ages alike -/
def upTo (I : Ins) (m : Nat) : Nat → Ins
  | 0 => { I with ag := List.replicate I.cs.length 0 }
  | k + 1 => setM (upTo I m k) k m
theorem set_mid {α : Type} (x y : α) : ∀ A B : List α, (A ++ x :: B).set A.length y = A ++ y :: B
  | [], B => rfl
  | a :: A, B => congrArg (a :: ·) (set_mid x y A B)
theorem rep_set : ∀ (n k : Nat), (List.replicate n 0).set k 0 = List.replicate n 0
  | 0, _ => rfl
  | n + 1, 0 => rfl
  | n + 1, k + 1 => by
    rw [List.replicate_succ]
    exact congrArg (0 :: ·) (rep_set n k)
theorem upTo_is (I : Ins) (m : Nat) : ∀ k, k ≤ I.cs.length → upTo I m k = { I with cs := ((I.cs.take k).map fun c : Ch => { c with m := m }) ++ I.cs.drop k, ag := List.replicate I.cs.length 0 }
  | 0, _ => rfl
  | k + 1, h => by
    show setM (upTo I m k) k m = _
    rw [upTo_is I m k (by omega)]
    unfold setM chAt
    have hd : I.cs.drop k = I.cs[k] :: I.cs.drop (k + 1) := List.drop_eq_getElem_cons (by omega)
    have hl : ((I.cs.take k).map fun c : Ch => { c with m := m }).length = k := by rw [List.length_map, List.length_take]; omega
    have e1 : (((I.cs.take k).map fun c : Ch => { c with m := m }) ++ I.cs.drop k).getD k default = I.cs[k] := by
      rw [hd]
      refine getD_of ?_
      rw [List.getElem?_append_right (by omega), hl, Nat.sub_self]
      rfl
    have e2 : ((((I.cs.take k).map fun c : Ch => { c with m := m }) ++ I.cs.drop k).set k ({ I.cs[k] with m := m } : Ch)) = ((I.cs.take (k + 1)).map fun c : Ch => { c with m := m }) ++ I.cs.drop (k + 1) := by
      have := set_mid I.cs[k] ({ I.cs[k] with m := m } : Ch) ((I.cs.take k).map fun c : Ch => { c with m := m }) (I.cs.drop (k + 1))
      rw [hl] at this
      rw [hd, this, take_snoc (List.getElem?_eq_getElem (by omega)), List.map_append, List.append_assoc]
      rfl
    have e3 : (List.replicate I.cs.length 0).getD k 0 = 0 := getD_of (by rw [List.getElem?_replicate, if_pos (by omega)])
    dsimp only
    rw [e1, e2, e3, Nat.zero_min, rep_set]
theorem upTo_len {I : Ins} {m k : Nat} (h : k ≤ I.cs.length) : (upTo I m k).cs.length = I.cs.length ∧ (upTo I m k).ag.length = I.cs.length := by
  rw [upTo_is I m k h]
  constructor
  · show (_ ++ _ : List Ch).length = _
    rw [List.length_append, List.length_map, List.length_take, List.length_drop]
    omega
  · exact List.length_replicate
theorem upTo_all (I : Ins) (m : Nat) : upTo I m I.cs.length = common I m := by
  rw [upTo_is I m _ (Nat.le_refl _), List.take_length, List.drop_length, List.append_nil]
  rfl
section
variable {P : Program} {w : World} {K : PySem.W.Frag} {mg : Str → Option Value} {base : Heap} {fa : Nat → Addr} {fd : Nat → FuncData} {CC CI CR : Addr}
/-! ### would_start_safely -/
def spCommon (CC CI : Addr) : Sp := fun vs H Q _ => ∃ (a : Addr) (I : Ins) (N : Addr → Prop) (m : Nat), vs = [.ref a, .int (m : Int)] ∧ InsAt CC CI H a I N ∧ (Ok I ∧ 1 ≤ m ∧ m ≤ 3) ∧
  ∀ H', Same H H' → Q (.bl (sf (common I m))) H'
theorem sc33 : FnScope ["instance", "max_age", "tried", "number"] ["instance", "max_age"] (defScope (topS 33)) := ⟨rfl, rfl, rfl, by decide +kernel, rfl, by decide +kernel, by decide +kernel⟩
theorem ok33 {k : Nat} (D : All K mg fa fd CC CI CR) : FnOk P w K mg base CX0 (k + 8) (fa 33) (fd 33) ["instance", "max_age"] (spCommon CC CI) := by
  have G28 : FnOk P w K mg base CX0 (k + 7) (fa 28) (fd 28) ["instance"] (spCopy CC CI) := ok28 (k := k + 4) D
  have G26 : FnOk P w K mg base CX0 (k + 7) (fa 26) (fd 26) ["instance"] (spFresh CC CI) := ok26 D
  have G27 : FnOk P w K mg base CX0 (k + 7) (fa 27) (fd 27) ["instance", "number", "max_age"] (spSetM CC CI) := ok27 D
  have G30 : FnOk P w K mg base CX0 (k + 7) (fa 30) (fd 30) ["instance"] (spNow CC CI) := ok30 D
  refine D.d33.F.ok sc33 (fun vs H Q E h => ?_) (fun cdv A outer s H vs Q E hr h => ?_)
  · obtain ⟨a, I, N, m, rfl, _⟩ := h
    rfl
  · obtain ⟨a, I, N, m, rfl, J, ⟨O, h1, h3⟩, q⟩ := h
    have nd := sc33.nd
    refine ⟨_, pss_cons (ps_set (i := 2) nd rfl (.inl rfl) (pe_fn D.d28 G28 hr (by rfl) (pa_cons (pv 0) pa_nil)))
      (pss_cons (ps_fld (pv 2) (pe_fn D.d26 G26 hr (by rfl) (pa_cons (pv 0) pa_nil)) rfl)
      (pss_cons (ps_for PassesOwn.never rfl (pi_range1 (by rfl) D.T.bRange (pa_cons (pe_callB call_len_seq (by rfl) D.T.bLen PySem.boot_len (pa_cons (pe_fld (pv 2) rfl) pa_nil)) pa_nil)) (pg_name (i := 3) nd rfl (.inl rfl))
        (pss_one (ps_expr (pe_fn D.d27 G27 hr (by rfl) (pa_cons (pv 2) (pa_cons (pv 3) (pa_cons (pv 1) pa_nil)))))))
      (pss_one (ps_ret (pe_fn D.d30 G30 hr (by rfl) (pa_cons (pv 2) pa_nil)))))), ?_⟩
    refine ⟨_, rfl, a, I, N, rfl, J, O.few, fun H1 x s1 nx J1 => ?_⟩
    refine ⟨_, rfl, a, I, N, rfl, J.same s1, O.few, fun H2 u s2 nu hu => ?_⟩
    obtain ⟨dy, l, g, as, J2⟩ := J1.same s2
    refine ⟨_, rfl, x, CI, dy, _, rfl, J2.ho, D.T.clI, D.nAg, (by show 5 < 1000; decide), ?_⟩
    rw [inF_setAg]
    have xu : x ≠ u := ne_of J2.ho hu (fun z => nomatch z)
    have nuH : H u = none := s1.free nu
    have s2' : Same H H2 := s1.trans s2
    have J3 : InsD CC CI (upd H2 x (.ins CI dy (inF I l u))) x (upTo I m 0) (Old H) dy l u as := by
      refine ⟨upd_same, ?_, ?_, J2.nd, ?_, ?_, J2.na, J2.nl, Old.no nuH, J2.ns⟩
      · rw [upd_ne (ne_of J2.hl J2.ho (fun z => nomatch z))]
        exact J2.hl
      · exact Paired.mapP J2.hc fun b c ⟨d, e⟩ => ⟨d, by rw [upd_ne (ne_of e J2.ho (Ne.symm ins_ne))]; exact e⟩
      · rw [upd_ne (Ne.symm xu)]
        exact hu
      · have J1l := J1
        rintro rfl
        obtain ⟨dy0, l0, g0, as0, J0⟩ := J1
        have e1 := s2 _ _ J0.ho
        rw [J2.ho] at e1
        have e2 := HO.ins.inj (Option.some.inj e1)
        have e3 := congrArg (fun fs : List (Str × V) => fs[1]?) e2.2.2
        have e4 : l = l0 := V.ref.inj (congrArg Prod.snd (Option.some.inj e3))
        rw [e4] at nu
        rw [J0.hl] at nu
        cases nu
    have k3 : Keep (Old H) H2 (upd H2 x (.ins CI dy (inF I l u))) := fun b o e nb => by
      rw [upd_ne (fun z : b = x => J2.na (z ▸ nb))]
      exact e
    generalize upd H2 x (.ins CI dy (inF I l u)) = H3 at J3 k3
    have s3 : Same H H3 := Keep.same s2' k3
    have lenL : as.length = I.cs.length := Paired.length J3.hc
    refine ⟨_, rfl, x, CI, dy, _, _, rfl, J3.ho, D.T.clI, D.nCs, inF_cs _ l u, l, _, rfl, .inl (.inl (.inl J3.hl)), ?_⟩
    have few := O.few
    refine ⟨_, rfl, by rw [List.length_map, lenL]; omega, by rw [List.length_map, lenL]; omega, ?_⟩
    rw [List.length_map, lenL, Int.toNat_natCast]
    refine for_range (fun k σ H' => ∃ y3, σ = [some (.ref a), some (.int m), some (.ref x), y3] ∧ Same H H' ∧ InsAt CC CI H' x (upTo I m k) (Old H)) ⟨none, rfl, s3, ⟨dy, l, u, as, J3⟩⟩ ?_ ?_
    · rintro j σ H4 hj ⟨y3, rfl, s4, J4⟩
      have ej : (0 : Int) + (j : Nat) = (j : Nat) := by omega
      have ul := upTo_len (I := I) (m := m) (Nat.le_of_lt hj)
      refine ⟨_, rfl, _, rfl, _, rfl, x, _, _, j, m, by rw [ej]; rfl, J4, ⟨by rw [ul.1]; exact hj, by rw [ul.1, ul.2]⟩, fun H5 k5 J5 => ?_⟩
      exact ⟨_, rfl, Keep.same s4 k5, J5⟩
    · rintro σ H4 ⟨y3, rfl, s4, J4⟩
      rw [upTo_all] at J4
      exact ⟨_, rfl, x, _, _, rfl, J4, ok_common O h1 h3, fun H5 s5 => q H5 (s4.trans s5)⟩
/-! ### start_places -/
def spStarts (CC CI : Addr) : Sp := fun vs H Q _ => ∃ (a : Addr) (I : Ins) (N : Addr → Prop), vs = [.ref a] ∧ InsAt CC CI H a I N ∧ Ok I ∧
  ∀ H' q, Same H H' → H q = none → H' q = some (.lst (nints (starts I))) → Q (.ref q) H'
abbrev n34 : List Str := ["instance", "safe", "ages", "place"]
theorem sc34 : FnScope n34 ["instance"] (defScope (topS 34)) := ⟨rfl, rfl, rfl, by decide +kernel, rfl, by decide +kernel, by decide +kernel⟩
theorem ok34 {k : Nat} (D : All K mg fa fd CC CI CR) : FnOk P w K mg base CX0 (k + 7) (fa 34) (fd 34) ["instance"] (spStarts CC CI) := by
  have GS : FnOk P w K mg base CX0 (k + 6) (fa 10) (fd 10) ["place_count", "channels"] (spSafe w CC) := ok_safe D.Z D.M D.T
  have G26 : FnOk P w K mg base CX0 (k + 6) (fa 26) (fd 26) ["instance"] (spFresh CC CI) := ok26 D
  refine D.d34.F.ok sc34 (fun vs H Q E h => ?_) (fun cdv A outer s H vs Q E hr h => ?_)
  · obtain ⟨a, I, N, rfl, _⟩ := h
    rfl
  · obtain ⟨a, I, N, rfl, ⟨dx, l, g, as, J⟩, O, q⟩ := h
    have nd := sc34.nd
    refine ⟨_, pss_cons (ps_set (i := 1) nd rfl (.inr rfl) (pe_fn D.Z.sf GS hr (by rfl) (pa_cons (pe_fld (pv 0) rfl) (pa_cons (pe_fld (pv 0) rfl) pa_nil))))
      (pss_cons (ps_set (i := 2) nd rfl (.inr rfl) (pe_callTy call_tuple_of (by rfl) D.T.bTuple boot_tuple (pa_cons (pe_fn D.d26 G26 hr (by rfl) (pa_cons (pv 0) pa_nil)) pa_nil)))
      (pss_one (ps_ret (pe_lc (own := [("place", 3)]) (g := gName 3) rfl nd (pi_range1 (by rfl) D.T.bRange (pa_cons (pe_fld (pv 0) rfl) pa_nil)) (blkOk_by (N := n34) (sc := defScope (topS 34)) (by decide +kernel))
        (fun _ _ _ _ _ => pg_name (i := 3) nd rfl (Or.inl rfl))
        (fun _ _ _ _ _ => pts_one (pt_sin (w := w) hr (pe_tup (pa_cons (pv 3) (pa_cons (pv 2) pa_nil))) (pv 1)))
        (fun _ _ _ _ _ => pv 3))))), ?_⟩
    refine ⟨_, rfl, a, CI, dx, _, _, rfl, J.ho, D.T.clI, D.nPc, inF_pc I l g, _, rfl, a, CI, dx, _, _, rfl, J.ho, D.T.clI, D.nCs, inF_cs I l g, ?_⟩
    refine ⟨I.pc, l, I.cs, rfl, J.chs, ⟨O.few, O.pc, O.hm⟩, fun H1 d s1 nd1 hd => ?_⟩
    refine ⟨_, rfl, a, I, N, rfl, ⟨dx, l, g, as, J.same s1⟩, O.few, fun H2 u s2 nu hu => ?_⟩
    refine ⟨u, _, rfl, .inl ⟨.inl (.inl hu), fun t nt => ?_⟩⟩
    have s3 := same_upd (o := .tup (nints (List.replicate I.cs.length 0))) nt
    have s13 : Same H1 _ := s2.trans s3
    have hd3 := hd.same s13
    have J3 := J.same (s1.trans s13)
    have ht3 : upd H2 t (.tup (nints (List.replicate I.cs.length 0))) t = some (.tup (nints (List.replicate I.cs.length 0))) := upd_same
    have s03 := s1.trans s13
    generalize upd H2 t (.tup (nints (List.replicate I.cs.length 0))) = H3 at s13 hd3 J3 ht3 s03
    have pc4 := O.pc
    refine ⟨_, rfl, a, CI, dx, _, _, rfl, J3.ho, D.T.clI, D.nPc, inF_pc I l g, I.pc, rfl, by omega, by omega, fun o no => ?_⟩
    rw [show (I.pc : Int).toNat = I.pc from Int.toNat_natCast _]
    refine lc_range (fun i H' => Same H3 H' ∧ H' o = some (.lst (nints ((List.range i).filter fun p => decide ((p, List.replicate I.cs.length 0) ∈ safeSt I.pc I.cs))))) ⟨same_upd no, upd_same⟩ ?_ ?_
    · rintro i H4 hi ⟨sm, ho⟩
      have ei : (0 : Int) + (i : Nat) = (i : Nat) := by omega
      have grow : (List.range (i + 1)).filter (fun p => decide ((p, List.replicate I.cs.length 0) ∈ safeSt I.pc I.cs)) = (List.range i).filter (fun p => decide ((p, List.replicate I.cs.length 0) ∈ safeSt I.pc I.cs)) ++ (if decide ((i, List.replicate I.cs.length 0) ∈ safeSt I.pc I.cs) = true then [i] else []) := by
        rw [List.range_succ, List.filter_append, List.filter_cons]
        rfl
      refine ⟨rfl, _, rfl, _, rfl, by show 2 ≤ sizeLine; decide, fun v nv => ?_⟩
      have sv : Same H4 (upd H4 v (.tup [V.int (0 + (i : Nat)), V.ref t])) := same_upd nv
      have ka : KeyAt (upd H4 v (.tup [V.int (0 + (i : Nat)), V.ref t])) v (ck (i, List.replicate I.cs.length 0)) :=
        StAt.mk (s := (i, List.replicate I.cs.length 0)) (b := t) (by rw [upd_same, ei]) (sv _ _ (sm _ _ ht3))
      obtain ⟨xs, hd4, ks4, ex⟩ := (hd3.same sm).same sv
      refine ⟨_, rfl, v, d, _, xs, rfl, rfl, .inl hd4, ks4, ka, _, rfl, ?_⟩
      have ec : decide (ck (i, List.replicate I.cs.length 0) ∈ xs.map (·.1)) = decide ((i, List.replicate I.cs.length 0) ∈ safeSt I.pc I.cs) := by
        rw [ex]
        exact decide_eq_decide.mpr mem_ck
      rw [ec]
      have ho4 := sv _ _ ho
      have sm4 : Same H3 _ := sm.trans sv
      refine ifB (fun c => ?_) (fun c => ?_)
      · rw [if_pos c] at grow
        refine ⟨_, rfl, _, ho4, ?_, fun b z e => ?_, ?_⟩
        · rw [nints_len]
          refine small1000 (Nat.le_trans (List.length_filter_le _ _) ?_)
          rw [List.length_range]
          omega
        · rw [upd_ne (ne_of_none e no)]
          exact sm4 _ _ e
        · rw [upd_same, grow, nints_append, ei]
          rfl
      · rw [c, if_neg Bool.false_ne_true, List.append_nil] at grow
        exact ⟨sm4, by rw [grow]; exact ho4⟩
    · rintro H4 ⟨sm, ho⟩
      exact q H4 o (s03.trans sm) (s03.free no) ho
end
end OL
namespace OL
open PySem PySem.Spec PyProof.Rows L2
/-- addresses of dicts of states, one behind another -/
inductive DsAt (w : World) (H : Hp) : List Addr → List (List Sta) → Prop where
  | nil : DsAt w H [] []
  | cons {d : Addr} {S : List Sta} {ds : List Addr} {G : List (List Sta)} (h : Dct w H d S) (t : DsAt w H ds G) : DsAt w H (d :: ds) (S :: G)
theorem DsAt.map {w : World} {H H' : Hp} (f : ∀ d S, Dct w H d S → Dct w H' d S) : ∀ {ds : List Addr} {G : List (List Sta)}, DsAt w H ds G → DsAt w H' ds G
  | _, _, .nil => .nil
  | _, _, .cons h t => .cons (f _ _ h) (t.map f)
theorem DsAt.len {w : World} {H : Hp} : ∀ {ds : List Addr} {G : List (List Sta)}, DsAt w H ds G → ds.length = G.length
  | _, _, .nil => rfl
  | _, _, .cons _ t => congrArg (· + 1) t.len
theorem DsAt.snoc {w : World} {H : Hp} : ∀ {ds : List Addr} {G : List (List Sta)} {d : Addr} {S : List Sta}, DsAt w H ds G → Dct w H d S → DsAt w H (ds ++ [d]) (G ++ [S])
  | _, _, _, _, .nil, h => .cons h .nil
  | _, _, _, _, .cons q t, h => .cons q (t.snoc h)
theorem DsAt.rev {w : World} {H : Hp} : ∀ {ds : List Addr} {G : List (List Sta)}, DsAt w H ds G → DsAt w H ds.reverse G.reverse
  | _, _, .nil => .nil
  | _, _, .cons h t => by
    rw [List.reverse_cons, List.reverse_cons]
    exact t.rev.snoc h
theorem DsAt.get {w : World} {H : Hp} : ∀ {ds : List Addr} {G : List (List Sta)} {i : Nat} {d : Addr}, DsAt w H ds G → ds[i]? = some d → ∃ S, G[i]? = some S ∧ Dct w H d S
  | _, _, i, _, .nil, e => by simp at e
  | _, _, 0, _, .cons h _, e => by
    obtain rfl := Option.some.inj e
    exact ⟨_, rfl, h⟩
  | _, _, i + 1, _, .cons _ t, e => t.get (i := i) e
theorem DsAt.rep {w : World} {H : Hp} {d : Addr} {S : List Sta} (h : Dct w H d S) : ∀ n, DsAt w H (List.replicate n d) (List.replicate n S)
  | 0 => .nil
  | n + 1 => .cons h (DsAt.rep h n)
/-- a list is written elsewhere -/
theorem Dct.upL {w : World} {H : Hp} {d o : Addr} {S : List Sta} {xs ys : List V} (ho : H o = some (.lst xs)) (h : Dct w H d S) : Dct w (upd H o (.lst ys)) d S := by
  obtain ⟨zs, h1, h2, h3⟩ := h
  refine ⟨zs, ?_, fun p hp => ?_, h3⟩
  · rw [upd_ne (ne_of h1 ho (fun z => nomatch z))]
    exact h1
  · obtain ⟨b, e1, e2⟩ := h2 p hp
    exact ⟨b, by rw [upd_ne (ne_of e1 ho (fun z => nomatch z))]; exact e1, by rw [upd_ne (ne_of e2 ho (fun z => nomatch z))]; exact e2⟩
theorem StAt.upL {H : Hp} {t o : Addr} {s : Sta} {xs ys : List V} (ho : H o = some (.lst xs)) (h : StAt H t s) : StAt (upd H o (.lst ys)) t s := by
  obtain ⟨b, e1, e2⟩ := h
  exact ⟨b, by rw [upd_ne (ne_of e1 ho (fun z => nomatch z))]; exact e1, by rw [upd_ne (ne_of e2 ho (fun z => nomatch z))]; exact e2⟩
theorem smallest_split {cs : List Ch} {s : Sta} {g : List Sta} {G : List (List Sta)} : smallest cs s (g :: G) = (into cs s g).headD 0 :: smallest cs (after cs s ((into cs s g).headD 0)) G := rfl
theorem lvs_snoc (n : Nat) (cs : List Ch) (k : Nat) : (lvs n cs (k + 1)).reverse = (lvs n cs k).reverse ++ [lv n cs k] := by
  show (lv n cs k :: lvs n cs k).reverse = _
  rw [List.reverse_cons]
section
variable {P : Program} {w : World} {K : PySem.W.Frag} {mg : Str → Option Value} {base : Heap} {fa : Nat → Addr} {fd : Nat → FuncData} {CC CI CR : Addr}
/-! ### smallest_moves -/
def spSmall (w : World) (CC : Addr) : Sp := fun vs H Q _ => ∃ (l t gl : Addr) (cs : List Ch) (s : Sta) (ds : List Addr) (G : List (List Sta)), vs = [.ref l, .ref t, .ref gl] ∧
  (Chs CC H l cs ∧ StAt H t s ∧ H gl = some (.lst (ds.map V.ref)) ∧ DsAt w H ds G) ∧ (s.2.length = cs.length ∧ cs.length ≤ 3 ∧ G.length ≤ 30 ∧ Runs cs s G) ∧
  ∀ H' q, Same H H' → H q = none → H' q = some (.lst (nints (smallest cs s G))) → Q (.ref q) H'
theorem sc18 : FnScope ["channels", "state", "goals", "plan", "goal", "move"] ["channels", "state", "goals"] (defScope (topS 18)) := ⟨rfl, rfl, rfl, by decide +kernel, rfl, by decide +kernel, by decide +kernel⟩
theorem ok18 {k : Nat} (D : All K mg fa fd CC CI CR) : FnOk P w K mg base CX0 (k + 5) (fa 18) (fd 18) ["channels", "state", "goals"] (spSmall w CC) := by
  have G12 : FnOk P w K mg base CX0 (k + 4) (fa 12) (fd 12) ["channels", "state", "states"] (spInto w CC) := ok_into D.Z.mi.F D.M D.T
  have G5 : FnOk P w K mg base CX0 (k + 4) (fa 5) (fd 5) ["channels", "state", "move"] (spAfter CC) := ok_after D.M.af.F D.T D.M.ot
  refine D.d18.F.ok sc18 (fun vs H Q E h => ?_) (fun cdv A outer s H vs Q E hr h => ?_)
  · obtain ⟨l, t, gl, cs, s, ds, G, rfl, _⟩ := h
    rfl
  · obtain ⟨l, t, gl, cs, s0, ds, G, rfl, ⟨hC, hS, hgl, hD⟩, ⟨hl, h3, h30, hR⟩, q⟩ := h
    have nd := sc18.nd
    refine ⟨_, pss_cons (ps_set (i := 3) nd rfl (.inl rfl) (pe_lst pa_nil))
      (pss_cons (ps_for PassesOwn.never rfl (pi_list (pv 2)) (pg_name (i := 4) nd rfl (.inl rfl))
        (pss_cons (ps_set (i := 5) nd rfl (.inl rfl) (pe_ix ix_list (pe_fn D.Z.mi G12 hr (by rfl) (pa_cons (pv 0) (pa_cons (pv 1) (pa_cons (pv 4) pa_nil)))) pe_int (fun _ _ => rfl)))
        (pss_cons (ps_expr (pe_bm PySem.F.plainAttrs_list PySem.F.slot_list_append PySem.F.type_list_append mt_append (pv 3) (pa_cons (pv 5) pa_nil)))
        (pss_one (ps_set (i := 1) nd rfl (.inl rfl) (pe_fn D.M.af G5 hr (by rfl) (pa_cons (pv 0) (pa_cons (pv 1) (pa_cons (pv 5) pa_nil)))))))))
      (pss_one (ps_ret (pv 3)))), ?_⟩
    refine ⟨Nat.zero_le _, fun o no => ?_⟩
    have s1 := same_upd (o := .lst []) no
    have hL : SqL K H gl (ds.map V.ref) := .inl (.inl hgl)
    refine ⟨_, rfl, gl, rfl, ⟨_, s1.seq hL⟩, for_list (K := K) (xs := ds.map V.ref) (fun i σ H' => ∃ t' s' pl y4 y5, σ = [some (.ref l), some (.ref t'), some (.ref gl), some (.ref o), y4, y5] ∧ Same H H' ∧ H' o = some (.lst (nints pl)) ∧ StAt H' t' s' ∧
        s'.2.length = cs.length ∧ Runs cs s' (G.drop i) ∧ pl ++ smallest cs s' (G.drop i) = smallest cs s0 G ∧ pl.length = i)
      ⟨t, s0, [], none, none, rfl, s1, upd_same, hS.same s1, hl, hR, rfl, rfl⟩ (fun i σ H' _ ⟨_, _, _, _, _, _, sm, _⟩ => sm.seq hL) ?_ ?_⟩
    · rintro i x σ H1 hx ⟨t', s', pl, y4, y5, rfl, sm, ho, hS', hl', hR', eq, len⟩
      obtain ⟨d, hd, rfl⟩ := map_get hx
      obtain ⟨S, hG, hDS⟩ := hD.get hd
      have lenD := hD.len
      have hi : i < ds.length := (List.getElem?_eq_some_iff.mp hd).1
      have drop : G.drop i = S :: G.drop (i + 1) := by
        obtain ⟨h1, e1⟩ := List.getElem?_eq_some_iff.mp hG
        rw [List.drop_eq_getElem_cons h1, e1]
      rw [drop] at hR' eq
      obtain ⟨ne, hR2⟩ := hR'
      refine ⟨_, rfl, _, rfl, _, rfl, l, t', d, cs, s', S, rfl, ⟨hC.same sm, hS', (hDS.same sm).rd⟩, ⟨hl', h3⟩, fun H2 v s2 nv hv => ?_⟩
      have mem := head_mem ne
      have hhead : (nints (into cs s' S))[0]? = some (.int ((into cs s' S).headD 0 : Nat)) := by
        generalize into cs s' S = L at ne
        cases L with
        | nil => exact absurd rfl ne
        | cons m L => rfl
      generalize hm : (into cs s' S).headD 0 = m at hR2 eq hhead mem
      have mle : m ≤ cs.length := into_le mem
      refine ⟨v, _, _, _, rfl, rfl, .inl (.inl hv), atI_nat (j := 0) hhead, ?_⟩
      have ho2 := s2 _ _ ho
      refine ⟨_, rfl, .inl ⟨rfl, _, .inl (.inl ho2)⟩, _, rfl, o, _, _, rfl, rfl, ho2, ?_, ?_⟩
      · rw [nints_len]
        exact small1000 (by omega)
      have sU : Same H (upd H2 o (.lst (nints pl ++ [V.int (m : Nat)]))) := fun b z e => by
        rw [upd_ne (ne_of_none e no)]
        exact s2 _ _ (sm _ _ e)
      have hSU : StAt (upd H2 o (.lst (nints pl ++ [V.int (m : Nat)]))) t' s' := (hS'.same s2).upL ho2
      have hoU : upd H2 o (.lst (nints pl ++ [V.int (m : Nat)])) o = some (.lst (nints pl ++ [V.int (m : Nat)])) := upd_same
      generalize upd H2 o (.lst (nints pl ++ [V.int (m : Nat)])) = H3 at sU hSU hoU
      refine ⟨_, rfl, _, rfl, _, rfl, l, t', cs, s', m, rfl, ⟨hC.same sU, hSU⟩, ⟨hl', mle, h3⟩, fun H4 u s4 nu hu => ?_⟩
      refine ⟨u, after cs s' m, pl ++ [m], _, _, rfl, sU.trans s4, ?_, hu, by rw [after_len]; exact hl', hR2, ?_, ?_⟩
      · rw [nints_append]
        exact s4 _ _ hoU
      · rw [List.append_assoc, ← eq, smallest_split, hm]
        rfl
      · rw [List.length_append, len]
        rfl
    · rintro σ H1 ⟨t', s', pl, y4, y5, rfl, sm, ho, hS', hl', hR', eq, len⟩
      rw [List.length_map, hD.len, List.drop_length] at eq
      have e : pl = smallest cs s0 G := by
        rw [← eq]
        exact (List.append_nil _).symm
      rw [e] at ho
      exact ⟨_, rfl, q H1 o sm no ho⟩
/-! ### the two plans -/
def PlanV (H H' : Hp) (v : V) : Option (List Nat) → Prop
  | none => v = .non
  | some l => ∃ q, v = .ref q ∧ H q = none ∧ H' q = some (.lst (nints l))
def pl1 (n : Nat) (cs : List Ch) (s : Sta) (h : Nat) : Option (List Nat) := if s ∈ lv n cs h then some (smallest cs s (lvs n cs h)) else none
def plS (n : Nat) (cs : List Ch) (s : Sta) (h : Nat) : Option (List Nat) := if s ∈ safeSt n cs then some (smallest cs s (List.replicate h (safeSt n cs))) else none
def spPlan (w : World) (CC : Addr) (f : Nat → List Ch → Sta → Nat → Option (List Nat)) : Sp := fun vs H Q _ => ∃ (n : Nat) (l t : Addr) (cs : List Ch) (s : Sta) (h : Nat), vs = [.int (n : Int), .ref l, .ref t, .int (h : Int)] ∧
  (Chs CC H l cs ∧ StAt H t s) ∧ (cs.length ≤ 3 ∧ n ≤ 4 ∧ (∀ c ∈ cs, c.m ≤ 3) ∧ s.2.length = cs.length ∧ h ≤ 30) ∧
  ∀ H' v, Same H H' → PlanV H H' v (f n cs s h) → Q v H'
theorem sc17 : FnScope ["place_count", "channels", "state", "hours", "safe"] ["place_count", "channels", "state", "hours"] (defScope (topS 17)) := ⟨rfl, rfl, rfl, by decide +kernel, rfl, by decide +kernel, by decide +kernel⟩
theorem rep_flat (d : Addr) : ∀ n : Nat, (List.replicate n [V.ref d]).flatten = (List.replicate n d).map V.ref
  | 0 => rfl
  | n + 1 => by
    rw [List.replicate_succ, List.flatten_cons, rep_flat d n, List.replicate_succ]
    rfl
theorem ok17 {k : Nat} (D : All K mg fa fd CC CI CR) : FnOk P w K mg base CX0 (k + 7) (fa 17) (fd 17) ["place_count", "channels", "state", "hours"] (spPlan w CC plS) := by
  have GS : FnOk P w K mg base CX0 (k + 6) (fa 10) (fd 10) ["place_count", "channels"] (spSafe w CC) := ok_safe D.Z D.M D.T
  have G18 : FnOk P w K mg base CX0 (k + 6) (fa 18) (fd 18) ["channels", "state", "goals"] (spSmall w CC) := ok18 (k := k + 1) D
  refine D.d17.F.ok sc17 (fun vs H Q E h => ?_) (fun cdv A outer s H vs Q E hr h => ?_)
  · obtain ⟨n, l, t, cs, s, h, rfl, _⟩ := h
    rfl
  · obtain ⟨n, l, t, cs, s0, h, rfl, ⟨hC, hS⟩, ⟨h3, hn, hm, hl, hh⟩, q⟩ := h
    have nd := sc17.nd
    refine ⟨_, pss_cons (ps_set (i := 4) nd rfl (.inl rfl) (pe_fn D.Z.sf GS hr (by rfl) (pa_cons (pv 0) (pa_cons (pv 1) pa_nil))))
      (pss_cons (ps_if (pt_snotin (w := w) hr (pv 2) (pv 4)) (pss_one (ps_ret pe_non)) pss_nil)
      (pss_one (ps_ret (pe_fn D.d18 G18 hr (by rfl) (pa_cons (pv 1) (pa_cons (pv 2) (pa_cons (pe_op op_rep (pe_lst (pa_cons (pv 4) pa_nil)) (pv 3)) pa_nil))))))), ?_⟩
    refine ⟨_, rfl, _, rfl, n, l, cs, rfl, hC, ⟨h3, hn, hm⟩, fun H1 d s1 nd1 hd => ?_⟩
    obtain ⟨xs, hd1, ks1, ex⟩ := id hd
    refine ⟨_, rfl, _, rfl, t, d, _, xs, rfl, rfl, .inl hd1, ks1, hS.same s1, _, rfl, ?_⟩
    have ec : decide (ck s0 ∈ xs.map (·.1)) = decide (s0 ∈ safeSt n cs) := by
      rw [ex]
      exact decide_eq_decide.mpr mem_ck
    rw [ec]
    unfold plS at q
    by_cases c : s0 ∈ safeSt n cs
    · rw [decide_eq_true c]
      rw [if_pos c] at q
      refine iteF ⟨_, rfl, _, rfl, _, rfl, by show 1 ≤ sizeLine; decide, fun u nu => ?_⟩
      have su := same_upd (o := .lst [V.ref d]) nu
      refine ⟨_, rfl, u, _, _, rfl, rfl, upd_same, by omega, by omega, ?_, fun p np => ?_⟩
      · rw [Int.toNat_natCast]
        exact Nat.le_of_lt (small1000 (by show 1 * _ ≤ 1000; omega))
      · rw [Int.toNat_natCast, rep_flat]
        have sp : Same H1 (upd (upd H1 u (.lst [V.ref d])) p (.lst ((List.replicate h d).map V.ref))) := su.trans (same_upd np)
        refine ⟨l, t, p, cs, s0, List.replicate h d, List.replicate h (safeSt n cs), rfl, ⟨(hC.same s1).same sp, (hS.same s1).same sp, upd_same, DsAt.rep (hd.same sp) h⟩, ⟨hl, h3, by rw [List.length_replicate]; exact hh, runs_safe n cs h s0 c⟩, fun H4 v s4 nv hv => ?_⟩
        have s04 := s1.trans (sp.trans s4)
        exact q H4 _ s04 ⟨v, rfl, (s1.trans sp).free nv, hv⟩
    · rw [decide_eq_false c]
      rw [if_neg c] at q
      exact iteT (q H1 .non s1 rfl)
theorem sc16 : FnScope ["place_count", "channels", "state", "hours", "lasting", "goals", "hour"] ["place_count", "channels", "state", "hours"] (defScope (topS 16)) := ⟨rfl, rfl, rfl, by decide +kernel, rfl, by decide +kernel, by decide +kernel⟩
theorem ok16 {k : Nat} (D : All K mg fa fd CC CI CR) : FnOk P w K mg base CX0 (k + 7) (fa 16) (fd 16) ["place_count", "channels", "state", "hours"] (spPlan w CC pl1) := by
  have GO : FnOk P w K mg base CX0 (k + 6) (fa 13) (fd 13) ["place_count", "channels"] (spOStates w CC) := ok_ostates (k := k + 4) D.Z.os.F D.T D.Z.oa
  have GT : FnOk P w K mg base CX0 (k + 6) (fa 11) (fd 11) ["channels", "states"] (spStay w CC) := ok_stay (k := k + 1) D.Z.st.F D.Z.mi D.M D.T
  have G18 : FnOk P w K mg base CX0 (k + 6) (fa 18) (fd 18) ["channels", "state", "goals"] (spSmall w CC) := ok18 (k := k + 1) D
  refine D.d16.F.ok sc16 (fun vs H Q E h => ?_) (fun cdv A outer s H vs Q E hr h => ?_)
  · obtain ⟨n, l, t, cs, s, h, rfl, _⟩ := h
    rfl
  · obtain ⟨n, l, t, cs, s0, h, rfl, ⟨hC, hS⟩, ⟨h3, hn, hm, hl, hh⟩, q⟩ := h
    have nd := sc16.nd
    refine ⟨_, pss_cons (ps_set (i := 4) nd rfl (.inl rfl) (pe_fn D.Z.os GO hr (by rfl) (pa_cons (pv 0) (pa_cons (pv 1) pa_nil))))
      (pss_cons (ps_set (i := 5) nd rfl (.inl rfl) (pe_lst pa_nil))
      (pss_cons (ps_for PassesOwn.never rfl (pi_range1 (by rfl) D.T.bRange (pa_cons (pv 3) pa_nil)) (pg_name (i := 6) nd rfl (.inl rfl))
        (pss_cons (ps_expr (pe_bm PySem.F.plainAttrs_list PySem.F.slot_list_append PySem.F.type_list_append mt_append (pv 5) (pa_cons (pv 4) pa_nil)))
        (pss_one (ps_set (i := 4) nd rfl (.inl rfl) (pe_fn D.Z.st GT hr (by rfl) (pa_cons (pv 1) (pa_cons (pv 4) pa_nil)))))))
      (pss_cons (ps_if (pt_snotin (w := w) hr (pv 2) (pv 4)) (pss_one (ps_ret pe_non)) pss_nil)
      (pss_one (ps_ret (pe_fn D.d18 G18 hr (by rfl) (pa_cons (pv 1) (pa_cons (pv 2) (pa_cons (pe_listRev rfl (by rfl) D.T.bList (by rfl) D.bRev (pv 5)) pa_nil))))))))), ?_⟩
    refine ⟨_, rfl, _, rfl, n, l, cs, rfl, hC, ⟨h3, hn, hm⟩, fun H1 d0 s1 nd1 hd0 => ?_⟩
    refine ⟨Nat.zero_le _, fun o no => ?_⟩
    have s2 : Same H (upd H1 o (.lst [])) := s1.trans (same_upd no)
    have noH := s1.free no
    refine ⟨_, rfl, h, rfl, by omega, by omega, ?_⟩
    rw [show (h : Int).toNat = h from Int.toNat_natCast h]
    refine for_range (fun i σ H' => ∃ d y6 ds, σ = [some (.int n), some (.ref l), some (.ref t), some (.int h), some (.ref d), some (.ref o), y6] ∧ Same H H' ∧ H' o = some (.lst (ds.map V.ref)) ∧ DsAt w H' ds (lvs n cs i).reverse ∧ Dct w H' d (lv n cs i))
      ⟨d0, none, [], rfl, s2, upd_same, .nil, hd0.same (same_upd no)⟩ ?_ ?_
    · rintro i σ H2 hi ⟨d, y6, ds, rfl, sm, ho, hds, hd⟩
      have lenD : ds.length = i := by rw [hds.len, List.length_reverse, lvs_len]
      refine ⟨_, rfl, .inl ⟨rfl, _, .inl (.inl ho)⟩, _, rfl, o, _, _, rfl, rfl, ho, ?_, ?_⟩
      · rw [List.length_map, lenD]
        exact small1000 (by omega)
      have sU : Same H (upd H2 o (.lst (ds.map V.ref ++ [V.ref d]))) := fun b z e => by
        rw [upd_ne (ne_of_none e noH)]
        exact sm _ _ e
      have hdU := hd.upL (ys := ds.map V.ref ++ [V.ref d]) ho
      have hdsU := hds.map (H' := upd H2 o (.lst (ds.map V.ref ++ [V.ref d]))) (fun _ _ z => z.upL ho)
      have hoU : upd H2 o (.lst (ds.map V.ref ++ [V.ref d])) o = some (.lst ((ds ++ [d]).map V.ref)) := by rw [upd_same, List.map_append]; rfl
      generalize upd H2 o (.lst (ds.map V.ref ++ [V.ref d])) = H3 at sU hdU hdsU hoU
      refine ⟨_, rfl, _, rfl, l, d, cs, lv n cs i, rfl, ⟨hC.same sU, hdU⟩, ⟨h3, lv_nodup n cs i, Nat.le_trans (lv_len n cs i) (openStates_few hm h3 hn), fun s hs => (openStates_all (lv_open n cs i s hs)).1⟩, fun H4 e s4 ne he => ?_⟩
      refine ⟨e, _, ds ++ [d], rfl, sU.trans s4, s4 _ _ hoU, ?_, he⟩
      rw [lvs_snoc]
      exact (hdsU.snoc hdU).map fun _ _ z => z.same s4
    · rintro σ H2 ⟨d, y6, ds, rfl, sm, ho, hds, hd⟩
      obtain ⟨xs, hd1, ks1, ex⟩ := id hd
      refine ⟨_, rfl, _, rfl, t, d, _, xs, rfl, rfl, .inl hd1, ks1, hS.same sm, _, rfl, ?_⟩
      have ec : decide (ck s0 ∈ xs.map (·.1)) = decide (s0 ∈ lv n cs h) := by
        rw [ex]
        exact decide_eq_decide.mpr mem_ck
      rw [ec]
      unfold pl1 at q
      by_cases c : s0 ∈ lv n cs h
      · rw [decide_eq_true c]
        rw [if_pos c] at q
        refine iteF ⟨_, rfl, _, rfl, _, rfl, o, _, rfl, .inl (.inl ho), fun u nu => ?_⟩
        have su := same_upd (o := .lst (ds.map V.ref).reverse) nu
        have hdu := (hds.rev).map (H' := upd H2 u (.lst (ds.map V.ref).reverse)) fun _ _ z => z.same su
        rw [List.reverse_reverse] at hdu
        refine ⟨l, t, u, cs, s0, ds.reverse, lvs n cs h, rfl, ⟨(hC.same sm).same su, (hS.same sm).same su, by rw [upd_same, List.map_reverse], hdu⟩, ⟨hl, h3, by rw [lvs_len]; exact hh, runs_lv n cs h s0 c⟩, fun H4 v s4 nv hv => ?_⟩
        exact q H4 _ (sm.trans (su.trans s4)) ⟨v, rfl, (sm.trans su).free nv, hv⟩
      · rw [decide_eq_false c]
        rw [if_neg c] at q
        exact iteT (q H2 .non sm rfl)
end
end OL
namespace OL
open PySem PySem.Spec PyProof.Rows L2
theorem lt_cast (i j : Nat) : decide ((i : Int) < (j : Int)) = decide (i < j) := decide_eq_decide.mpr Int.ofNat_lt
theorem le_cast (i j : Nat) : decide ((i : Int) ≤ (j : Int)) = decide (i ≤ j) := decide_eq_decide.mpr Int.ofNat_le
theorem InsD.more {CC CI : Addr} {H : Hp} {a q0 : Addr} {I : Ins} {N : Addr → Prop} {dx l g : Addr} {as : List Addr} (J : InsD CC CI H a I N dx l g as) (h : H q0 = none) : InsD CC CI H a I (fun b => N b ∨ b = q0) dx l g as := by
  have ne : ∀ {b : Addr} {o : HO}, H b = some o → ¬ N b → ¬ (N b ∨ b = q0) := fun e n z => z.elim n (ne_of_none e h)
  refine ⟨J.ho, J.hl, J.hc, J.nd, J.hg, J.lg, ne J.ho J.na, ne J.hl J.nl, ne J.hg J.ng, fun b hb => ?_⟩
  obtain ⟨c, d, e⟩ := paired_memC J.hc hb
  exact ne e (J.ns b hb)
theorem InsD.less {CC CI : Addr} {H : Hp} {a : Addr} {I : Ins} {N M : Addr → Prop} {dx l g : Addr} {as : List Addr} (f : ∀ b, M b → N b) (J : InsD CC CI H a I N dx l g as) : InsD CC CI H a I M dx l g as :=
  ⟨J.ho, J.hl, J.hc, J.nd, J.hg, J.lg, fun z => J.na (f _ z), fun z => J.nl (f _ z), fun z => J.ng (f _ z), fun b hb z => J.ns b hb (f _ z)⟩
/-- what an operation leaves and answers -/
def Fin (CC CI : Addr) (H : Hp) (a : Addr) (N : Addr → Prop) (Q : VK) (r : Res) : Prop :=
  ∀ H' q, Keep N H H' → InsAt CC CI H' a r.1 N → ¬ N q → H' q = some (.lst (r.2.map V.int)) → Q (.ref q) H'
theorem Fin.read {CC CI : Addr} {H H' : Hp} {a q : Addr} {N : Addr → Prop} {Q : VK} {I : Ins} {l : List Int} (F : Fin CC CI H a N Q (I, l)) (J : InsAt CC CI H a I N) (t : Trk N H) (s : Same H H') (n : H q = none)
    (h : H' q = some (.lst (l.map V.int))) : Q (.ref q) H' := F H' q (Same.keep s N) (J.same s) (t.new n) h
section
variable {P : Program} {w : World} {K : PySem.W.Frag} {mg : Str → Option Value} {base : Heap} {fa : Nat → Addr} {fd : Nat → FuncData} {CC CI CR : Addr}
/-! ### refused, is_place, is_channel, is_max_age, counted, one_if -/
def spRefused : Sp := fun vs H Q _ => ∃ c : Int, vs = [.int c] ∧ ∀ H' q, Same H H' → H q = none → H' q = some (.lst [.int (-c)]) → Q (.ref q) H'
theorem sc51 : FnScope ["code"] ["code"] (defScope (topS 51)) := ⟨rfl, rfl, rfl, by decide +kernel, rfl, by decide +kernel, by decide +kernel⟩
theorem ok51 {k : Nat} (D : All K mg fa fd CC CI CR) : FnOk P w K mg base CX0 (k + 1) (fa 51) (fd 51) ["code"] spRefused := by
  refine D.d51.F.ok sc51 (fun vs H Q E h => ?_) (fun cdv A outer s H vs Q E hr h => ?_)
  · obtain ⟨c, rfl, _⟩ := h
    rfl
  · obtain ⟨c, rfl, q⟩ := h
    refine ⟨_, pss_one (ps_ret (pe_lst (pa_cons (pe_un un_neg (pv 0)) pa_nil))), ?_⟩
    exact ⟨_, rfl, c, rfl, by show 1 ≤ sizeLine; decide, fun p np => q _ p (same_upd np) np upd_same⟩
def spIsPlace (CC CI : Addr) : Sp := fun vs H Q _ => ∃ (a : Addr) (I : Ins) (N : Addr → Prop) (p : Nat), vs = [.ref a, .int (p : Int)] ∧ InsAt CC CI H a I N ∧ Q (.bl (decide (p < I.pc))) H
theorem sc52 : FnScope ["instance", "place"] ["instance", "place"] (defScope (topS 52)) := ⟨rfl, rfl, rfl, by decide +kernel, rfl, by decide +kernel, by decide +kernel⟩
theorem ok52 {k : Nat} (D : All K mg fa fd CC CI CR) : FnOk P w K mg base CX0 (k + 1) (fa 52) (fd 52) ["instance", "place"] (spIsPlace CC CI) := by
  refine D.d52.F.ok sc52 (fun vs H Q E h => ?_) (fun cdv A outer s H vs Q E hr h => ?_)
  · obtain ⟨a, I, N, p, rfl, _⟩ := h
    rfl
  · obtain ⟨a, I, N, p, rfl, ⟨dx, l, g, as, J⟩, q⟩ := h
    refine ⟨_, pss_one (ps_ret (pe_cmpR op_lt (pv 1) (pe_fld (pv 0) rfl) (nomark _))), ?_⟩
    refine ⟨_, rfl, _, rfl, a, CI, dx, _, _, rfl, J.ho, D.T.clI, D.nPc, inF_pc I l g, _, _, rfl, rfl, ?_⟩
    dsimp only
    rw [lt_cast]
    exact q
def spIsCh (CC CI : Addr) : Sp := fun vs H Q _ => ∃ (a : Addr) (I : Ins) (N : Addr → Prop) (p : Nat), vs = [.ref a, .int (p : Int)] ∧ InsAt CC CI H a I N ∧ Q (.bl (decide (p < I.cs.length))) H
theorem sc53 : FnScope ["instance", "channel"] ["instance", "channel"] (defScope (topS 53)) := ⟨rfl, rfl, rfl, by decide +kernel, rfl, by decide +kernel, by decide +kernel⟩
theorem ok53 {k : Nat} (D : All K mg fa fd CC CI CR) : FnOk P w K mg base CX0 (k + 1) (fa 53) (fd 53) ["instance", "channel"] (spIsCh CC CI) := by
  refine D.d53.F.ok sc53 (fun vs H Q E h => ?_) (fun cdv A outer s H vs Q E hr h => ?_)
  · obtain ⟨a, I, N, p, rfl, _⟩ := h
    rfl
  · obtain ⟨a, I, N, p, rfl, ⟨dx, l, g, as, J⟩, q⟩ := h
    refine ⟨_, pss_one (ps_ret (pe_cmpR op_lt (pv 1) (pe_callB call_len_seq (by rfl) D.T.bLen PySem.boot_len (pa_cons (pe_fld (pv 0) rfl) pa_nil)) (nomark _))), ?_⟩
    refine ⟨_, rfl, _, rfl, a, CI, dx, _, _, rfl, J.ho, D.T.clI, D.nCs, inF_cs I l g, l, _, rfl, .inl (.inl (.inl J.hl)), _, _, rfl, rfl, ?_⟩
    dsimp only
    rw [lt_cast, List.length_map, Paired.length J.hc]
    exact q
def spIsMax : Sp := fun vs H Q _ => ∃ m : Nat, vs = [.int (m : Int)] ∧ Q (.bl (decide (1 ≤ m ∧ m ≤ 3))) H
theorem sc54 : FnScope ["max_age"] ["max_age"] (defScope (topS 54)) := ⟨rfl, rfl, rfl, by decide +kernel, rfl, by decide +kernel, by decide +kernel⟩
theorem ok54 {k : Nat} (D : All K mg fa fd CC CI CR) : FnOk P w K mg base CX0 (k + 1) (fa 54) (fd 54) ["max_age"] spIsMax := by
  refine D.d54.F.ok sc54 (fun vs H Q E h => ?_) (fun cdv A outer s H vs Q E hr h => ?_)
  · obtain ⟨m, rfl, _⟩ := h
    rfl
  · obtain ⟨m, rfl, q⟩ := h
    refine ⟨_, pss_one (ps_ret (pe_chain op_le op_le (pe_c (by rfl) D.c1) (pv 0) (pe_c (by rfl) D.c3))), ?_⟩
    refine ⟨_, rfl, _, _, rfl, rfl, _, rfl, ?_⟩
    rw [show decide ((1 : Int) ≤ (m : Int)) = decide (1 ≤ m) from le_cast 1 m]
    by_cases h1 : 1 ≤ m
    · rw [decide_eq_true h1]
      refine iteT ⟨_, _, rfl, rfl, ?_⟩
      dsimp only
      rw [show decide ((m : Int) ≤ 3) = decide (m ≤ 3) from le_cast m 3]
      rw [show decide (1 ≤ m ∧ m ≤ 3) = decide (m ≤ 3) from decide_eq_decide.mpr ⟨fun z => z.2, fun z => ⟨h1, z⟩⟩] at q
      exact q
    · rw [decide_eq_false h1]
      rw [decide_eq_false (fun z => h1 z.1)] at q
      exact iteF q
def spCounted : Sp := fun vs H Q _ => ∃ (l : Addr) (xs : List Nat), vs = [.ref l] ∧ H l = some (.lst (nints xs)) ∧ xs.length ≤ 100 ∧ ∀ H' q, Same H H' → H q = none → H' q = some (.lst ((lres xs).map V.int)) → Q (.ref q) H'
theorem sc55 : FnScope ["numbers"] ["numbers"] (defScope (topS 55)) := ⟨rfl, rfl, rfl, by decide +kernel, rfl, by decide +kernel, by decide +kernel⟩
theorem lres_ints (xs : List Nat) : [V.int (xs.length : Nat)] ++ nints xs = (lres xs).map V.int := by
  show _ = V.int (xs.length : Nat) :: (zs xs).map V.int
  rw [nints_zs]
  rfl
theorem ok55 {k : Nat} (D : All K mg fa fd CC CI CR) : FnOk P w K mg base CX0 (k + 1) (fa 55) (fd 55) ["numbers"] spCounted := by
  refine D.d55.F.ok sc55 (fun vs H Q E h => ?_) (fun cdv A outer s H vs Q E hr h => ?_)
  · obtain ⟨l, xs, rfl, _⟩ := h
    rfl
  · obtain ⟨l, xs, rfl, hl, hs, q⟩ := h
    refine ⟨_, pss_one (ps_ret (pe_op op_cat (pe_lst (pa_cons (pe_callB call_len_seq (by rfl) D.T.bLen PySem.boot_len (pa_cons (pv 0) pa_nil)) pa_nil)) (pv 0))), ?_⟩
    refine ⟨_, rfl, l, _, rfl, .inl (.inl (.inl hl)), by show 1 ≤ sizeLine; decide, fun u nu => ?_⟩
    have su := same_upd (o := .lst [V.int ((nints xs).length : Nat)]) nu
    refine ⟨_, rfl, u, l, _, _, rfl, rfl, upd_same, su _ _ hl, ?_, fun p np => ?_⟩
    · rw [nints_len]
      exact Nat.le_of_lt (small1000 (by show 1 + _ ≤ 1000; omega))
    · refine q _ p (su.trans (same_upd np)) (su.free np) ?_
      rw [upd_same, nints_len, lres_ints]
def spOneIf : Sp := fun vs H Q _ => ∃ b : Bool, vs = [.bl b] ∧ Q (.int (if b = true then 1 else 0)) H
theorem sc56 : FnScope ["holds"] ["holds"] (defScope (topS 56)) := ⟨rfl, rfl, rfl, by decide +kernel, rfl, by decide +kernel, by decide +kernel⟩
theorem ok56 {k : Nat} (D : All K mg fa fd CC CI CR) : FnOk P w K mg base CX0 (k + 1) (fa 56) (fd 56) ["holds"] spOneIf := by
  refine D.d56.F.ok sc56 (fun vs H Q E h => ?_) (fun cdv A outer s H vs Q E hr h => ?_)
  · obtain ⟨b, rfl, _⟩ := h
    rfl
  · obtain ⟨b, rfl, q⟩ := h
    refine ⟨_, pss_one (ps_ret (pe_ifExp (pt_val (pv 0)) pe_int pe_int)), ?_⟩
    refine ⟨_, rfl, b, rfl, ?_⟩
    cases b with
    | true => exact iteT q
    | false => exact iteF q
/-! ### counted_plan -/
def spCPlan : Sp := fun vs H Q _ => ∃ (v : V) (o : Option (List Nat)), vs = [v] ∧ (match o with
    | none => v = .non
    | some l => l.length ≤ 100 ∧ ∃ q, v = .ref q ∧ H q = some (.lst (nints l))) ∧
  ∀ H' q, Same H H' → H q = none → H' q = some (.lst ((planR o).map V.int)) → Q (.ref q) H'
theorem sc73 : FnScope ["plan"] ["plan"] (defScope (topS 73)) := ⟨rfl, rfl, rfl, by decide +kernel, rfl, by decide +kernel, by decide +kernel⟩
theorem ok73 {k : Nat} (D : All K mg fa fd CC CI CR) : FnOk P w K mg base CX0 (k + 2) (fa 73) (fd 73) ["plan"] spCPlan := by
  have G51 : FnOk P w K mg base CX0 (k + 1) (fa 51) (fd 51) ["code"] spRefused := ok51 D
  have G55 : FnOk P w K mg base CX0 (k + 1) (fa 55) (fd 55) ["numbers"] spCounted := ok55 D
  refine D.d73.F.ok sc73 (fun vs H Q E h => ?_) (fun cdv A outer s H vs Q E hr h => ?_)
  · obtain ⟨v, o, rfl, _⟩ := h
    rfl
  · obtain ⟨v, o, rfl, hv, q⟩ := h
    refine ⟨_, pss_cons (ps_if (pt_cmpR op_isN (pv 0) pe_non (nomark _)) (pss_one (ps_ret (pe_fn D.d51 G51 hr (by rfl) (pa_cons (pe_c (by rfl) D.e33) pa_nil)))) pss_nil)
      (pss_one (ps_ret (pe_fn D.d55 G55 hr (by rfl) (pa_cons (pv 0) pa_nil)))), ?_⟩
    refine ⟨_, rfl, rfl, _, rfl, ?_⟩
    cases o with
    | none =>
      subst hv
      rw [decide_eq_true rfl]
      exact iteT ⟨33, rfl, fun H' p s n e => q H' p s n e⟩
    | some l =>
      obtain ⟨len, p, rfl, hp⟩ := hv
      rw [decide_eq_false (fun z => nomatch z)]
      exact iteF ⟨_, rfl, p, l, rfl, hp, len, fun H' u s n e => q H' u s n e⟩
/-! ### make_move -/
def spMove (CC CI : Addr) : Sp := fun vs H Q _ => ∃ (a : Addr) (I : Ins) (N : Addr → Prop) (m : Nat), vs = [.ref a, .int (m : Int)] ∧ InsAt CC CI H a I N ∧ (Ok I ∧ m ≤ I.cs.length ∧ Trk N H) ∧ Fin CC CI H a N Q (oMove I m)
theorem sc66 : FnScope ["instance", "move", "later", "place", "ages"] ["instance", "move"] (defScope (topS 66)) := ⟨rfl, rfl, rfl, by decide +kernel, rfl, by decide +kernel, by decide +kernel⟩
theorem ok66 {k : Nat} (D : All K mg fa fd CC CI CR) : FnOk P w K mg base CX0 (k + 3) (fa 66) (fd 66) ["instance", "move"] (spMove CC CI) := by
  have G51 : FnOk P w K mg base CX0 (k + 2) (fa 51) (fd 51) ["code"] spRefused := ok51 D
  have G25 : FnOk P w K mg base CX0 (k + 2) (fa 25) (fd 25) ["instance"] (spCur CC CI) := ok25 D
  have G5 : FnOk P w K mg base CX0 (k + 2) (fa 5) (fd 5) ["channels", "state", "move"] (spAfter CC) := ok_after D.M.af.F D.T D.M.ot
  have G6 : FnOk P w K mg base CX0 (k + 2) (fa 6) (fd 6) ["channels", "state"] (spOpen CC) := ok_open D.M.op.F D.T
  refine D.d66.F.ok sc66 (fun vs H Q E h => ?_) (fun cdv A outer s H vs Q E hr h => ?_)
  · obtain ⟨a, I, N, m, rfl, _⟩ := h
    rfl
  · obtain ⟨a, I, N, m, rfl, ⟨dx, l, g, as, J⟩, ⟨O, hm, tr⟩, F⟩ := h
    have nd := sc66.nd
    refine ⟨_, pss_cons (ps_set (i := 2) nd rfl (.inl rfl) (pe_fn D.M.af G5 hr (by rfl) (pa_cons (pe_fld (pv 0) rfl) (pa_cons (pe_fn D.d25 G25 hr (by rfl) (pa_cons (pv 0) pa_nil)) (pa_cons (pv 1) pa_nil)))))
      (pss_cons (ps_if (pt_not (pt_val (pe_fn D.M.op G6 hr (by rfl) (pa_cons (pe_fld (pv 0) rfl) (pa_cons (pv 2) pa_nil))))) (pss_one (ps_ret (pe_fn D.d51 G51 hr (by rfl) (pa_cons (pe_c (by rfl) D.e35) pa_nil)))) pss_nil)
      (pss_cons (ps_asg (pv 2) (pg_tup rfl (pgs_cons (pg_name (i := 3) nd rfl (.inl rfl)) (pgs_cons (pg_name (i := 4) nd rfl (.inl rfl)) pgs_nil))))
      (pss_cons (ps_fld (pv 0) (pv 3) rfl)
      (pss_cons (ps_fld (pv 0) (pe_callTy call_list_of (by rfl) D.T.bList (by decide +kernel) (pa_cons (pv 4) pa_nil)) rfl)
      (pss_cons (ps_fldaug (pv 0) pe_int in_add)
      (pss_one (ps_ret (pe_op op_cat (pe_lst (pa_cons (pv 3) pa_nil)) (pe_callTy call_list_of (by rfl) D.T.bList (by decide +kernel) (pa_cons (pv 4) pa_nil)))))))))), ?_⟩
    refine ⟨_, rfl, a, CI, dx, _, _, rfl, J.ho, D.T.clI, D.nCs, inF_cs I l g, ?_⟩
    refine ⟨_, rfl, a, I, N, rfl, ⟨dx, l, g, as, J⟩, fun H1 t s1 nt ht => ?_⟩
    refine ⟨_, rfl, l, t, I.cs, I.st, m, rfl, ⟨J.chs.same s1, ht⟩, ⟨O.len, hm, O.few⟩, fun H2 v s2 nv hv => ?_⟩
    have s02 := s1.trans s2
    have J2 := J.same s02
    have al : (after I.cs I.st m).2.length = I.cs.length := by rw [after_len]; exact O.len
    refine ⟨_, rfl, a, CI, dx, _, _, rfl, J2.ho, D.T.clI, D.nCs, inF_cs I l g, _, rfl, l, v, I.cs, after I.cs I.st m, rfl, ⟨J2.chs, hv⟩, al, fun H3 s3 => ?_⟩
    have s03 := s02.trans s3
    have J3 := J2.same s3
    refine ⟨_, rfl, ?_⟩
    unfold oMove at F
    by_cases c : opens I.cs (after I.cs I.st m).2 = true
    · rw [if_pos c] at F
      rw [c]
      refine iteF ?_
      obtain ⟨b, hv3, hb3⟩ := (hv.same s3).at
      have few := O.few
      refine ⟨_, rfl, v, _, rfl, .inl (.inl hv3), rfl, _, _, rfl, _, _, rfl, rfl, ?_⟩
      refine ⟨_, rfl, _, rfl, a, CI, dx, _, rfl, J3.ho, D.T.clI, D.nPl, (by show 5 < 1000; decide), ?_⟩
      rw [inF_setPl]
      have ab : b ≠ a := ne_of hb3 J3.ho (fun z => nomatch z)
      refine ⟨_, rfl, b, _, rfl, .inr (.inl (.inl ((upd_ne ab).trans hb3))), fun u nu => ?_⟩
      have au : a ≠ u := ne_of_none upd_same nu
      have nu3 : H3 u = none := by rw [upd_ne (Ne.symm au)] at nu; exact nu
      have bu : b ≠ u := ne_of_none hb3 nu3
      refine ⟨_, rfl, a, CI, dx, _, rfl, (upd_ne au).trans upd_same, D.T.clI, D.nAg, (by show 5 < 1000; decide), ?_⟩
      rw [inF_setAg]
      refine ⟨_, rfl, a, CI, dx, _, _, rfl, upd_same, D.T.clI, D.nHe, inF_he _ l u, ?_⟩
      refine ⟨_, _, rfl, rfl, dx, _, upd_same, (by show 5 < 1000; decide), ?_⟩
      have ehe : ((I.he : Int) + 1) = ((I.he + 1 : Nat) : Int) := by omega
      rw [ehe, show putF "hours_elapsed" (V.int ((I.he + 1 : Nat) : Int)) (inF { I with pl := (after I.cs I.st m).1 } l u) = inF (moved I m) l u from inF_setHe _ l u _]
      have up : ∀ {x : Addr}, x ≠ a → x ≠ u → upd (upd (upd (upd H3 a (.ins CI dx (inF { I with pl := (after I.cs I.st m).1 } l g))) u (.lst (nints (after I.cs I.st m).2))) a (.ins CI dx (inF { I with pl := (after I.cs I.st m).1 } l u))) a (.ins CI dx (inF (moved I m) l u)) x = H3 x := fun h1 h2 => by
        rw [upd_ne h1, upd_ne h1, upd_ne h2, upd_ne h1]
      have hA : upd (upd (upd (upd H3 a (.ins CI dx (inF { I with pl := (after I.cs I.st m).1 } l g))) u (.lst (nints (after I.cs I.st m).2))) a (.ins CI dx (inF { I with pl := (after I.cs I.st m).1 } l u))) a (.ins CI dx (inF (moved I m) l u)) a = some (.ins CI dx (inF (moved I m) l u)) := upd_same
      have hU : upd (upd (upd (upd H3 a (.ins CI dx (inF { I with pl := (after I.cs I.st m).1 } l g))) u (.lst (nints (after I.cs I.st m).2))) a (.ins CI dx (inF { I with pl := (after I.cs I.st m).1 } l u))) a (.ins CI dx (inF (moved I m) l u)) u = some (.lst (nints (after I.cs I.st m).2)) := by
        rw [upd_ne (Ne.symm au), upd_ne (Ne.symm au), upd_same]
      generalize upd (upd (upd (upd H3 a (.ins CI dx (inF { I with pl := (after I.cs I.st m).1 } l g))) u (.lst (nints (after I.cs I.st m).2))) a (.ins CI dx (inF { I with pl := (after I.cs I.st m).1 } l u))) a (.ins CI dx (inF (moved I m) l u)) = H4 at up hA hU
      have nuN : ¬ N u := tr.new (s03.free nu3)
      have k4 : Keep N H H4 := fun x o e n => by
        have e3 := s03 _ _ e
        rw [up (fun z : x = a => J.na (z ▸ n)) (ne_of_none e3 nu3)]
        exact e3
      have J4 : InsD CC CI H4 a (moved I m) N dx l u as := by
        refine ⟨hA, ?_, ?_, J.nd, hU, ?_, J.na, J.nl, nuN, J.ns⟩
        · rw [up (ne_of J3.hl J3.ho (fun z => nomatch z)) (ne_of_none J3.hl nu3)]
          exact J3.hl
        · exact Paired.mapP J3.hc fun x c ⟨d, e⟩ => ⟨d, by rw [up (ne_of e J3.ho (Ne.symm ins_ne)) (ne_of_none e nu3)]; exact e⟩
        · exact ne_of_none J3.hl nu3
      have hb4 : H4 b = some (.tup (nints (after I.cs I.st m).2)) := (up ab bu).trans hb3
      refine ⟨_, rfl, by show 1 ≤ sizeLine; decide, fun x nx => ?_⟩
      have sx := same_upd (o := .lst [V.int ((after I.cs I.st m).1 : Nat)]) nx
      refine ⟨_, rfl, b, _, rfl, .inr (.inl (.inl (sx _ _ hb4))), fun y ny => ?_⟩
      have sy := same_upd (o := .lst (nints (after I.cs I.st m).2)) ny
      refine ⟨x, y, _, _, rfl, rfl, sy _ _ upd_same, upd_same, ?_, fun z nz => ?_⟩
      · rw [nints_len, al]
        exact Nat.le_of_lt (small1000 (by show 1 + _ ≤ 1000; omega))
      · have sz := same_upd (o := .lst ([V.int ((after I.cs I.st m).1 : Nat)] ++ nints (after I.cs I.st m).2)) nz
        have s4z := sx.trans (sy.trans sz)
        refine F _ z (k4.trans (Same.keep s4z N)) ⟨dx, l, u, as, J4.same s4z⟩ ((tr.keep k4).new ((sx.trans sy).free nz)) ?_
        rw [upd_same]
        show some (HO.lst ([V.int ((after I.cs I.st m).1 : Nat)] ++ nints (after I.cs I.st m).2)) = some (HO.lst (V.int ((after I.cs I.st m).1 : Nat) :: (zs (after I.cs I.st m).2).map V.int))
        rw [nints_zs]
        rfl
    · rw [if_neg c] at F
      rw [Bool.eq_false_iff.mpr c]
      exact iteT ⟨35, rfl, fun H' p sp np e => F.read ⟨dx, l, g, as, J⟩ tr (s03.trans sp) (s03.free np) e⟩
end
end OL
namespace OL
open PySem PySem.Spec PyProof.Rows L2
/-- the promise of the operation of a number -/
def spOp (CC CI : Addr) (n : Nat) : Sp := fun vs H Q _ => ∃ (a p : Addr) (I : Ins) (ps : List Nat) (N : Addr → Prop), vs = [.ref a, .ref p] ∧ InsAt CC CI H a I N ∧ H p = some (.lst (nints ps)) ∧ (Ok I ∧ ps.length = counts.getD n 0 ∧ Trk N H) ∧
  Fin CC CI H a N Q (opOf n I ps)
theorem spOp_len {CC CI : Addr} {n : Nat} (vs : List V) (H : Hp) (Q : VK) (E : XK) (h : spOp CC CI n vs H Q E) : vs.length = (["instance", "parameters"] : List Str).length := by
  obtain ⟨a, p, I, ps, N, rfl, _⟩ := h
  rfl
theorem len1 {α : Type} {l : List α} (h : l.length = 1) : ∃ x, l = [x] := by
  match l, h with
  | [x], _ => exact ⟨x, rfl⟩
theorem len2 {α : Type} {l : List α} (h : l.length = 2) : ∃ x y, l = [x, y] := by
  match l, h with
  | [x, y], _ => exact ⟨x, y, rfl⟩
theorem len3 {α : Type} {l : List α} (h : l.length = 3) : ∃ x y z, l = [x, y, z] := by
  match l, h with
  | [x, y, z], _ => exact ⟨x, y, z, rfl⟩
abbrev nIP : List Str := ["instance", "parameters"]
theorem int_beq (b : Bool) : V.int (if b = true then 1 else 0) = V.int (if b = true then (1 : Int) else 0) := rfl
section
variable {P : Program} {w : World} {K : PySem.W.Frag} {mg : Str → Option Value} {base : Heap} {fa : Nat → Addr} {fd : Nat → FuncData} {CC CI CR : Addr}
/-! ### 9, 10, 11: available_moves, legal_moves, safe_moves -/
theorem sc67 : FnScope nIP nIP (defScope (topS 67)) := ⟨rfl, rfl, rfl, by decide +kernel, rfl, by decide +kernel, by decide +kernel⟩
theorem ok67 {k : Nat} (D : All K mg fa fd CC CI CR) : FnOk P w K mg base CX0 (k + 3) (fa 67) (fd 67) nIP (spOp CC CI 9) := by
  have G55 : FnOk P w K mg base CX0 (k + 2) (fa 55) (fd 55) ["numbers"] spCounted := ok55 D
  have G2 : FnOk P w K mg base CX0 (k + 2) (fa 2) (fd 2) ["channels", "place"] (spAvail CC) := ok_avail D.M.av.F D.T D.M.ae
  refine D.d67.F.ok sc67 spOp_len (fun cdv A outer s H vs Q E hr h => ?_)
  obtain ⟨a, p, I, ps, N, rfl, ⟨dx, l, g, as, J⟩, hp, ⟨O, hl, tr⟩, F⟩ := h
  obtain rfl := List.eq_nil_of_length_eq_zero (show ps.length = 0 from hl)
  refine ⟨_, pss_one (ps_ret (pe_fn D.d55 G55 hr (by rfl) (pa_cons (pe_fn D.M.av G2 hr (by rfl) (pa_cons (pe_fld (pv 0) rfl) (pa_cons (pe_fld (pv 0) rfl) pa_nil))) pa_nil))), ?_⟩
  refine ⟨_, rfl, a, CI, dx, _, _, rfl, J.ho, D.T.clI, D.nCs, inF_cs I l g, _, rfl, a, CI, dx, _, _, rfl, J.ho, D.T.clI, D.nPl, inF_pl I l g, ?_⟩
  refine ⟨l, I.cs, I.pl, rfl, J.chs, O.few, fun H1 v s1 nv hv => ?_⟩
  have few := O.few
  have len := avail_len I.cs I.pl
  exact ⟨v, _, rfl, hv, by omega, fun H' q s n e => Fin.read (l := lres (avail I.cs I.pl)) F ⟨dx, l, g, as, J⟩ tr (s1.trans s) (s1.free n) e⟩
theorem sc68 : FnScope nIP nIP (defScope (topS 68)) := ⟨rfl, rfl, rfl, by decide +kernel, rfl, by decide +kernel, by decide +kernel⟩
theorem ok68 {k : Nat} (D : All K mg fa fd CC CI CR) : FnOk P w K mg base CX0 (k + 4) (fa 68) (fd 68) nIP (spOp CC CI 10) := by
  have G55 : FnOk P w K mg base CX0 (k + 3) (fa 55) (fd 55) ["numbers"] spCounted := ok55 D
  have G25 : FnOk P w K mg base CX0 (k + 3) (fa 25) (fd 25) ["instance"] (spCur CC CI) := ok25 D
  have G7 : FnOk P w K mg base CX0 (k + 3) (fa 7) (fd 7) ["channels", "state"] (spLegal CC) := ok_legal D.M D.T
  refine D.d68.F.ok sc68 spOp_len (fun cdv A outer s H vs Q E hr h => ?_)
  obtain ⟨a, p, I, ps, N, rfl, ⟨dx, l, g, as, J⟩, hp, ⟨O, hl, tr⟩, F⟩ := h
  obtain rfl := List.eq_nil_of_length_eq_zero (show ps.length = 0 from hl)
  refine ⟨_, pss_one (ps_ret (pe_fn D.d55 G55 hr (by rfl) (pa_cons (pe_fn D.M.le G7 hr (by rfl) (pa_cons (pe_fld (pv 0) rfl) (pa_cons (pe_fn D.d25 G25 hr (by rfl) (pa_cons (pv 0) pa_nil)) pa_nil))) pa_nil))), ?_⟩
  refine ⟨_, rfl, a, CI, dx, _, _, rfl, J.ho, D.T.clI, D.nCs, inF_cs I l g, _, rfl, a, I, N, rfl, ⟨dx, l, g, as, J⟩, fun H1 t s1 nt ht => ?_⟩
  refine ⟨l, t, I.cs, I.st, rfl, ⟨J.chs.same s1, ht⟩, ⟨O.len, O.few⟩, fun H2 v s2 nv hv => ?_⟩
  have few := O.few
  have len := legal_len I.cs I.st
  have s12 := s1.trans s2
  exact ⟨v, _, rfl, hv, by omega, fun H' q s n e => Fin.read (l := lres (legal I.cs I.st)) F ⟨dx, l, g, as, J⟩ tr (s12.trans s) (s12.free n) e⟩
theorem sc69 : FnScope nIP nIP (defScope (topS 69)) := ⟨rfl, rfl, rfl, by decide +kernel, rfl, by decide +kernel, by decide +kernel⟩
theorem ok69 {k : Nat} (D : All K mg fa fd CC CI CR) : FnOk P w K mg base CX0 (k + 8) (fa 69) (fd 69) nIP (spOp CC CI 11) := by
  have G55 : FnOk P w K mg base CX0 (k + 7) (fa 55) (fd 55) ["numbers"] spCounted := ok55 D
  have G25 : FnOk P w K mg base CX0 (k + 7) (fa 25) (fd 25) ["instance"] (spCur CC CI) := ok25 D
  have G9 : FnOk P w K mg base CX0 (k + 7) (fa 9) (fd 9) ["place_count", "channels", "state"] (spSafeMoves w CC) := ok_safeMoves D.Z D.M D.T
  refine D.d69.F.ok sc69 spOp_len (fun cdv A outer s H vs Q E hr h => ?_)
  obtain ⟨a, p, I, ps, N, rfl, ⟨dx, l, g, as, J⟩, hp, ⟨O, hl, tr⟩, F⟩ := h
  obtain rfl := List.eq_nil_of_length_eq_zero (show ps.length = 0 from hl)
  refine ⟨_, pss_one (ps_ret (pe_fn D.d55 G55 hr (by rfl) (pa_cons (pe_fn D.Z.sm G9 hr (by rfl) (pa_cons (pe_fld (pv 0) rfl) (pa_cons (pe_fld (pv 0) rfl) (pa_cons (pe_fn D.d25 G25 hr (by rfl) (pa_cons (pv 0) pa_nil)) pa_nil)))) pa_nil))), ?_⟩
  refine ⟨_, rfl, a, CI, dx, _, _, rfl, J.ho, D.T.clI, D.nPc, inF_pc I l g, _, rfl, a, CI, dx, _, _, rfl, J.ho, D.T.clI, D.nCs, inF_cs I l g, _, rfl, a, I, N, rfl, ⟨dx, l, g, as, J⟩, fun H1 t s1 nt ht => ?_⟩
  refine ⟨I.pc, l, t, I.cs, I.st, rfl, ⟨J.chs.same s1, ht⟩, ⟨O.few, O.pc, O.hm, O.len⟩, fun H2 v s2 nv hv => ?_⟩
  have few := O.few
  have len := into_len I.cs I.st (safeSt I.pc I.cs)
  have s12 := s1.trans s2
  exact ⟨v, safeMoves I.pc I.cs I.st, rfl, hv, by unfold safeMoves; omega, fun H' q s n e => Fin.read (l := lres (safeMoves I.pc I.cs I.st)) F ⟨dx, l, g, as, J⟩ tr (s12.trans s) (s12.free n) e⟩
/-! ### 12: is_safe -/
theorem sc70 : FnScope nIP nIP (defScope (topS 70)) := ⟨rfl, rfl, rfl, by decide +kernel, rfl, by decide +kernel, by decide +kernel⟩
theorem ok70 {k : Nat} (D : All K mg fa fd CC CI CR) : FnOk P w K mg base CX0 (k + 8) (fa 70) (fd 70) nIP (spOp CC CI 12) := by
  have G56 : FnOk P w K mg base CX0 (k + 7) (fa 56) (fd 56) ["holds"] spOneIf := ok56 D
  have G30 : FnOk P w K mg base CX0 (k + 7) (fa 30) (fd 30) ["instance"] (spNow CC CI) := ok30 D
  refine D.d70.F.ok sc70 spOp_len (fun cdv A outer s H vs Q E hr h => ?_)
  obtain ⟨a, p, I, ps, N, rfl, J, hp, ⟨O, hl, tr⟩, F⟩ := h
  obtain rfl := List.eq_nil_of_length_eq_zero (show ps.length = 0 from hl)
  refine ⟨_, pss_one (ps_ret (pe_lst (pa_cons (pe_fn D.d56 G56 hr (by rfl) (pa_cons (pe_fn D.d30 G30 hr (by rfl) (pa_cons (pv 0) pa_nil)) pa_nil)) pa_nil))), ?_⟩
  refine ⟨_, rfl, a, I, N, rfl, J, O, fun H1 s1 => ⟨_, rfl, by show 1 ≤ sizeLine; decide, fun u nu => ?_⟩⟩
  exact Fin.read (l := b01 (sf I)) F J tr (s1.trans (same_upd nu)) (s1.free nu) upd_same
/-! ### 13, 14: the plans -/
theorem sc71 : FnScope ["instance", "parameters", "hours"] nIP (defScope (topS 71)) := ⟨rfl, rfl, rfl, by decide +kernel, rfl, by decide +kernel, by decide +kernel⟩
theorem ok71 {k : Nat} (D : All K mg fa fd CC CI CR) : FnOk P w K mg base CX0 (k + 8) (fa 71) (fd 71) nIP (spOp CC CI 13) := by
  have G51 : FnOk P w K mg base CX0 (k + 7) (fa 51) (fd 51) ["code"] spRefused := ok51 D
  have G73 : FnOk P w K mg base CX0 (k + 7) (fa 73) (fd 73) ["plan"] spCPlan := ok73 (k := k + 5) D
  have G25 : FnOk P w K mg base CX0 (k + 7) (fa 25) (fd 25) ["instance"] (spCur CC CI) := ok25 D
  have G16 : FnOk P w K mg base CX0 (k + 7) (fa 16) (fd 16) ["place_count", "channels", "state", "hours"] (spPlan w CC pl1) := ok16 D
  refine D.d71.F.ok sc71 spOp_len (fun cdv A outer s H vs Q E hr h => ?_)
  obtain ⟨a, p, I, ps, N, rfl, ⟨dx, l, g, as, J⟩, hp, ⟨O, hl, tr⟩, F⟩ := h
  obtain ⟨h, rfl⟩ := len1 (show ps.length = 1 from hl)
  refine ⟨_, pss_cons (ps_set (i := 2) sc71.nd rfl (.inl rfl) (pe_ix ix_list (pv 1) pe_int (fun _ _ => rfl)))
    (pss_cons (ps_if (pt_cmpR op_gt (pv 2) (pe_c (by rfl) D.cHf) (nomark _)) (pss_one (ps_ret (pe_fn D.d51 G51 hr (by rfl) (pa_cons (pe_c (by rfl) D.e22) pa_nil)))) pss_nil)
    (pss_one (ps_ret (pe_fn D.d73 G73 hr (by rfl) (pa_cons (pe_fn D.d16 G16 hr (by rfl) (pa_cons (pe_fld (pv 0) rfl) (pa_cons (pe_fld (pv 0) rfl) (pa_cons (pe_fn D.d25 G25 hr (by rfl) (pa_cons (pv 0) pa_nil)) (pa_cons (pv 2) pa_nil))))) pa_nil))))), ?_⟩
  refine ⟨_, rfl, p, _, _, _, rfl, rfl, .inl (.inl hp), atI_nat (j := 0) rfl, ?_⟩
  refine ⟨_, rfl, _, _, rfl, rfl, _, rfl, ?_⟩
  rw [show decide ((9 : Int) < (h : Int)) = decide (9 < h) from lt_cast 9 h]
  have F : Fin CC CI H a N Q (oFirst I h) := F
  unfold oFirst at F
  by_cases c : 9 < h
  · rw [if_pos c] at F
    rw [decide_eq_true c]
    exact iteT ⟨22, rfl, fun H' q s n e => F.read ⟨dx, l, g, as, J⟩ tr s n e⟩
  · rw [if_neg c] at F
    rw [decide_eq_false c]
    refine iteF ⟨_, rfl, a, CI, dx, _, _, rfl, J.ho, D.T.clI, D.nPc, inF_pc I l g, _, rfl, a, CI, dx, _, _, rfl, J.ho, D.T.clI, D.nCs, inF_cs I l g, _, rfl, a, I, N, rfl, ⟨dx, l, g, as, J⟩, fun H1 t s1 nt ht => ?_⟩
    refine ⟨_, rfl, I.pc, l, t, I.cs, I.st, h, rfl, ⟨J.chs.same s1, ht⟩, ⟨O.few, O.pc, O.hm, O.len, by omega⟩, fun H2 v s2 hv => ?_⟩
    have e0 : plan1 I h = pl1 I.pc I.cs I.st h := rfl
    refine ⟨v, plan1 I h, rfl, ?_, fun H' q s n e => F.read ⟨dx, l, g, as, J⟩ tr (s1.trans (s2.trans s)) ((s1.trans s2).free n) e⟩
    rw [e0]
    have lenP : ∀ l, pl1 I.pc I.cs I.st h = some l → l.length ≤ 100 := by
      intro l e
      unfold pl1 at e
      split at e
      · obtain rfl := Option.some.inj e
        rw [smallest_len, lvs_len]
        omega
      · cases e
    cases e1 : pl1 I.pc I.cs I.st h with
    | none =>
      rw [e1] at hv
      exact hv
    | some pl =>
      rw [e1] at hv
      obtain ⟨q, h1, _, h3⟩ := hv
      exact ⟨lenP pl e1, q, h1, h3⟩
theorem sc72 : FnScope ["instance", "parameters", "hours"] nIP (defScope (topS 72)) := ⟨rfl, rfl, rfl, by decide +kernel, rfl, by decide +kernel, by decide +kernel⟩
theorem planS_eq (I : Ins) (h : Nat) : planS I h = plS I.pc I.cs I.st h := by
  unfold planS plS sf
  by_cases c : I.st ∈ safeSt I.pc I.cs
  · rw [if_pos c, if_pos (decide_eq_true c)]
  · rw [if_neg c, if_neg (by rw [decide_eq_false c]; exact Bool.false_ne_true)]
theorem plS_len {n : Nat} {cs : List Ch} {s : Sta} {h : Nat} {l : List Nat} (e : plS n cs s h = some l) : l.length = h := by
  unfold plS at e
  split at e
  · obtain rfl := Option.some.inj e
    rw [smallest_len, List.length_replicate]
  · cases e
theorem ok72 {k : Nat} (D : All K mg fa fd CC CI CR) : FnOk P w K mg base CX0 (k + 8) (fa 72) (fd 72) nIP (spOp CC CI 14) := by
  have G51 : FnOk P w K mg base CX0 (k + 7) (fa 51) (fd 51) ["code"] spRefused := ok51 D
  have G73 : FnOk P w K mg base CX0 (k + 7) (fa 73) (fd 73) ["plan"] spCPlan := ok73 (k := k + 5) D
  have G25 : FnOk P w K mg base CX0 (k + 7) (fa 25) (fd 25) ["instance"] (spCur CC CI) := ok25 D
  have G17 : FnOk P w K mg base CX0 (k + 7) (fa 17) (fd 17) ["place_count", "channels", "state", "hours"] (spPlan w CC plS) := ok17 D
  refine D.d72.F.ok sc72 spOp_len (fun cdv A outer s H vs Q E hr h => ?_)
  obtain ⟨a, p, I, ps, N, rfl, ⟨dx, l, g, as, J⟩, hp, ⟨O, hl, tr⟩, F⟩ := h
  obtain ⟨h, rfl⟩ := len1 (show ps.length = 1 from hl)
  refine ⟨_, pss_cons (ps_set (i := 2) sc72.nd rfl (.inl rfl) (pe_ix ix_list (pv 1) pe_int (fun _ _ => rfl)))
    (pss_cons (ps_if (pt_cmpR op_gt (pv 2) (pe_c (by rfl) D.cHs) (nomark _)) (pss_one (ps_ret (pe_fn D.d51 G51 hr (by rfl) (pa_cons (pe_c (by rfl) D.e22) pa_nil)))) pss_nil)
    (pss_one (ps_ret (pe_fn D.d73 G73 hr (by rfl) (pa_cons (pe_fn D.d17 G17 hr (by rfl) (pa_cons (pe_fld (pv 0) rfl) (pa_cons (pe_fld (pv 0) rfl) (pa_cons (pe_fn D.d25 G25 hr (by rfl) (pa_cons (pv 0) pa_nil)) (pa_cons (pv 2) pa_nil))))) pa_nil))))), ?_⟩
  refine ⟨_, rfl, p, _, _, _, rfl, rfl, .inl (.inl hp), atI_nat (j := 0) rfl, ?_⟩
  refine ⟨_, rfl, _, _, rfl, rfl, _, rfl, ?_⟩
  rw [show decide ((30 : Int) < (h : Int)) = decide (30 < h) from lt_cast 30 h]
  have F : Fin CC CI H a N Q (oSafeP I h) := F
  unfold oSafeP at F
  by_cases c : 30 < h
  · rw [if_pos c] at F
    rw [decide_eq_true c]
    exact iteT ⟨22, rfl, fun H' q s n e => F.read ⟨dx, l, g, as, J⟩ tr s n e⟩
  · rw [if_neg c, planS_eq] at F
    rw [decide_eq_false c]
    refine iteF ⟨_, rfl, a, CI, dx, _, _, rfl, J.ho, D.T.clI, D.nPc, inF_pc I l g, _, rfl, a, CI, dx, _, _, rfl, J.ho, D.T.clI, D.nCs, inF_cs I l g, _, rfl, a, I, N, rfl, ⟨dx, l, g, as, J⟩, fun H1 t s1 nt ht => ?_⟩
    refine ⟨_, rfl, I.pc, l, t, I.cs, I.st, h, rfl, ⟨J.chs.same s1, ht⟩, ⟨O.few, O.pc, O.hm, O.len, by omega⟩, fun H2 v s2 hv => ?_⟩
    refine ⟨v, plS I.pc I.cs I.st h, rfl, ?_, fun H' q s n e => F.read ⟨dx, l, g, as, J⟩ tr (s1.trans (s2.trans s)) ((s1.trans s2).free n) e⟩
    cases e1 : plS I.pc I.cs I.st h with
    | none =>
      rw [e1] at hv
      exact hv
    | some pl =>
      rw [e1] at hv
      obtain ⟨q, h1, _, h3⟩ := hv
      have := plS_len e1
      exact ⟨by omega, q, h1, h3⟩
/-! ### 16: safe_start_places -/
theorem sc75 : FnScope nIP nIP (defScope (topS 75)) := ⟨rfl, rfl, rfl, by decide +kernel, rfl, by decide +kernel, by decide +kernel⟩
theorem ok75 {k : Nat} (D : All K mg fa fd CC CI CR) : FnOk P w K mg base CX0 (k + 8) (fa 75) (fd 75) nIP (spOp CC CI 16) := by
  have G55 : FnOk P w K mg base CX0 (k + 7) (fa 55) (fd 55) ["numbers"] spCounted := ok55 D
  have G34 : FnOk P w K mg base CX0 (k + 7) (fa 34) (fd 34) ["instance"] (spStarts CC CI) := ok34 D
  refine D.d75.F.ok sc75 spOp_len (fun cdv A outer s H vs Q E hr h => ?_)
  obtain ⟨a, p, I, ps, N, rfl, J, hp, ⟨O, hl, tr⟩, F⟩ := h
  obtain rfl := List.eq_nil_of_length_eq_zero (show ps.length = 0 from hl)
  refine ⟨_, pss_one (ps_ret (pe_fn D.d55 G55 hr (by rfl) (pa_cons (pe_fn D.d34 G34 hr (by rfl) (pa_cons (pv 0) pa_nil)) pa_nil))), ?_⟩
  refine ⟨_, rfl, a, I, N, rfl, J, O, fun H1 v s1 nv hv => ?_⟩
  have pc4 := O.pc
  have len : (starts I).length ≤ I.pc := by
    have := List.length_filter_le (fun p => decide ((p, List.replicate I.cs.length 0) ∈ safeSt I.pc I.cs)) (List.range I.pc)
    rwa [List.length_range] at this
  exact ⟨v, starts I, rfl, hv, by omega, fun H' q s n e => Fin.read (l := lres (starts I)) F J tr (s1.trans s) (s1.free n) e⟩
end
end OL
namespace OL
open PySem PySem.Spec PyProof.Rows L2
theorem pe_fldK {X : Cx} {K0 : PySem.W.Frag} {e : Expr} {f : Str} {pos : Pos} {ta : TE} (he : PE X e ta) (hb : attributeBase e f X.env (eval e X.env) = eval e X.env) (hK : X.K = K0 := by rfl) : PE X (.Attribute e f pos) (tFld K0 ta f) := by
  subst hK
  exact pe_fld he hb
theorem zs_sum : ∀ l : List Nat, (zs l).sum = ((l.sum : Nat) : Int)
  | [] => rfl
  | x :: l => by
    show (x : Int) + (zs l).sum = _
    rw [zs_sum l, List.sum_cons, Int.natCast_add]
theorem listed_snoc : ∀ (cs : List Ch) (xs : List Nat) (c : Ch) (x : Nat), cs.length = xs.length → listed (cs ++ [c]) (xs ++ [x]) = listed cs xs ++ [(c.a : Int), (c.b : Int), (c.m : Int), (x : Int)]
  | [], [], _, _, _ => rfl
  | c :: cs, x :: xs, d, y, h => by
    have ih := listed_snoc cs xs d y (by simpa using h)
    show (c.a : Int) :: (c.b : Int) :: (c.m : Int) :: (x : Int) :: listed (cs ++ [d]) (xs ++ [y]) = _
    rw [ih]
    rfl
  | [], _ :: _, _, _, h => by simp at h
  | _ :: _, [], _, _, h => by simp at h
theorem listed_len : ∀ (cs : List Ch) (xs : List Nat), cs.length = xs.length → (listed cs xs).length = 4 * cs.length
  | [], [], _ => rfl
  | c :: cs, x :: xs, h => by
    have ih := listed_len cs xs (by simpa using h)
    show (listed cs xs).length + 1 + 1 + 1 + 1 = 4 * (cs.length + 1)
    omega
  | [], _ :: _, h => by simp at h
  | _ :: _, [], h => by simp at h
section
variable {P : Program} {w : World} {K : PySem.W.Frag} {mg : Str → Option Value} {base : Heap} {fa : Nat → Addr} {fd : Nat → FuncData} {CC CI CR : Addr}
/-! ### 17: tight_channels -/
abbrev n76 : List Str := ["instance", "parameters", "number"]
theorem sc76 : FnScope n76 nIP (defScope (topS 76)) := ⟨rfl, rfl, rfl, by decide +kernel, rfl, by decide +kernel, by decide +kernel⟩
theorem ok76 {k : Nat} (D : All K mg fa fd CC CI CR) : FnOk P w K mg base CX0 (k + 10) (fa 76) (fd 76) nIP (spOp CC CI 17) := by
  have G51 : FnOk P w K mg base CX0 (k + 9) (fa 51) (fd 51) ["code"] spRefused := ok51 D
  have G55 : FnOk P w K mg base CX0 (k + 9) (fa 55) (fd 55) ["numbers"] spCounted := ok55 D
  have G30 : FnOk P w K mg base CX0 (k + 9) (fa 30) (fd 30) ["instance"] (spNow CC CI) := ok30 (k := k + 2) D
  have G32 : FnOk P w K mg base CX0 (k + 9) (fa 32) (fd 32) ["instance", "number"] (spTight CC CI) := ok32 D
  refine D.d76.F.ok sc76 spOp_len (fun cdv A outer s H vs Q E hr h => ?_)
  obtain ⟨a, p, I, ps, N, rfl, ⟨dx, l, g, as, J⟩, hp, ⟨O, hl, tr⟩, F⟩ := h
  obtain rfl := List.eq_nil_of_length_eq_zero (show ps.length = 0 from hl)
  have nd := sc76.nd
  refine ⟨_, pss_cons (ps_if (pt_not (pt_val (pe_fn D.d30 G30 hr (by rfl) (pa_cons (pv 0) pa_nil)))) (pss_one (ps_ret (pe_fn D.d51 G51 hr (by rfl) (pa_cons (pe_c (by rfl) D.e33) pa_nil)))) pss_nil)
    (pss_one (ps_ret (pe_fn D.d55 G55 hr (by rfl) (pa_cons (pe_lc (own := [("number", 2)]) (g := gName 2) rfl nd
        (pi_range1 (by rfl) D.T.bRange (pa_cons (pe_callB call_len_seq (by rfl) D.T.bLen PySem.boot_len (pa_cons (pe_fld (pv 0) rfl) pa_nil)) pa_nil)) (blkOk_by (N := n76) (sc := defScope (topS 76)) (by decide +kernel))
        (fun _ _ _ _ _ => pg_name (i := 2) nd rfl (Or.inl rfl))
        (fun _ _ _ _ _ => pts_one (pt_val (pe_fn D.d32 G32 hr (by rfl) (pa_cons (pv 0) (pa_cons (pv 2) pa_nil)))))
        (fun _ _ _ _ _ => pv 2)) pa_nil)))), ?_⟩
  refine ⟨_, rfl, a, I, N, rfl, ⟨dx, l, g, as, J⟩, O, fun H1 s1 => ⟨_, rfl, ?_⟩⟩
  have F : Fin CC CI H a N Q (oTight I) := F
  unfold oTight at F
  by_cases c : sf I = true
  · rw [if_pos c] at F
    rw [c]
    have J1 := J.same s1
    have few := O.few
    have lenL : as.length = I.cs.length := Paired.length J.hc
    refine iteF ⟨_, rfl, a, CI, dx, _, _, rfl, J1.ho, D.T.clI, D.nCs, inF_cs I l g, l, _, rfl, .inl (.inl (.inl J1.hl)), ?_⟩
    refine ⟨_, rfl, by rw [List.length_map, lenL]; omega, by rw [List.length_map, lenL]; omega, fun o no => ?_⟩
    rw [List.length_map, lenL, Int.toNat_natCast]
    refine lc_range (fun i H' => Same H1 H' ∧ H' o = some (.lst (nints ((List.range i).filter (tightB I))))) ⟨same_upd no, upd_same⟩ ?_ ?_
    · rintro i H2 hi ⟨sm, ho⟩
      have ei : (0 : Int) + (i : Nat) = (i : Nat) := by omega
      have grow : (List.range (i + 1)).filter (tightB I) = (List.range i).filter (tightB I) ++ (if tightB I i = true then [i] else []) := by
        rw [List.range_succ, List.filter_append, List.filter_cons]
        rfl
      refine ⟨rfl, _, rfl, _, rfl, a, I, N, i, by rw [ei]; rfl, ⟨dx, l, g, as, J1.same sm⟩, ⟨O, hi⟩, fun H3 s3 => ?_⟩
      refine ⟨_, rfl, ?_⟩
      have ho3 := s3 _ _ ho
      have sm3 : Same H1 H3 := sm.trans s3
      refine ifB (fun t => ?_) (fun t => ?_)
      · rw [if_pos t] at grow
        refine ⟨_, rfl, _, ho3, ?_, fun b z e => ?_, ?_⟩
        · rw [nints_len]
          refine small1000 (Nat.le_trans (List.length_filter_le _ _) ?_)
          rw [List.length_range]
          omega
        · rw [upd_ne (ne_of_none e no)]
          exact sm3 _ _ e
        · rw [upd_same, grow, nints_append, ei]
          rfl
      · rw [t, if_neg Bool.false_ne_true, List.append_nil] at grow
        exact ⟨sm3, by rw [grow]; exact ho3⟩
    · rintro H2 ⟨sm, ho⟩
      have len : ((List.range I.cs.length).filter (tightB I)).length ≤ 100 := by
        have := List.length_filter_le (tightB I) (List.range I.cs.length)
        rw [List.length_range] at this
        omega
      have s12 := s1.trans sm
      exact ⟨o, _, rfl, ho, len, fun H' q s n e => Fin.read (l := lres ((List.range I.cs.length).filter (tightB I))) F ⟨dx, l, g, as, J⟩ tr (s12.trans s) (s12.free n) e⟩
  · rw [if_neg c] at F
    rw [Bool.eq_false_iff.mpr c]
    exact iteT ⟨33, rfl, fun H' q s n e => F.read ⟨dx, l, g, as, J⟩ tr (s1.trans s) (s1.free n) e⟩
/-! ### 18: is_safe_with_max_age -/
theorem sc77 : FnScope ["instance", "parameters", "number", "max_age"] nIP (defScope (topS 77)) := ⟨rfl, rfl, rfl, by decide +kernel, rfl, by decide +kernel, by decide +kernel⟩
theorem max_bad {m : Nat} : ¬ (m = 0 ∨ 3 < m) ↔ 1 ≤ m ∧ m ≤ 3 := by omega
theorem ok77 {k : Nat} (D : All K mg fa fd CC CI CR) : FnOk P w K mg base CX0 (k + 9) (fa 77) (fd 77) nIP (spOp CC CI 18) := by
  have G51 : FnOk P w K mg base CX0 (k + 8) (fa 51) (fd 51) ["code"] spRefused := ok51 D
  have G53 : FnOk P w K mg base CX0 (k + 8) (fa 53) (fd 53) ["instance", "channel"] (spIsCh CC CI) := ok53 D
  have G54 : FnOk P w K mg base CX0 (k + 8) (fa 54) (fd 54) ["max_age"] spIsMax := ok54 D
  have G56 : FnOk P w K mg base CX0 (k + 8) (fa 56) (fd 56) ["holds"] spOneIf := ok56 D
  have G31 : FnOk P w K mg base CX0 (k + 8) (fa 31) (fd 31) ["instance", "number", "max_age"] (spWould CC CI) := ok31 D
  refine D.d77.F.ok sc77 spOp_len (fun cdv A outer s H vs Q E hr h => ?_)
  obtain ⟨a, p, I, ps, N, rfl, J, hp, ⟨O, hl, tr⟩, F⟩ := h
  obtain ⟨i, m, rfl⟩ := len2 (show ps.length = 2 from hl)
  have nd := sc77.nd
  refine ⟨_, pss_cons (ps_asg (pv 1) (pg_lst rfl (pgs_cons (pg_name (i := 2) nd rfl (.inl rfl)) (pgs_cons (pg_name (i := 3) nd rfl (.inl rfl)) pgs_nil))))
    (pss_cons (ps_if (pt_not (pt_val (pe_fn D.d53 G53 hr (by rfl) (pa_cons (pv 0) (pa_cons (pv 2) pa_nil))))) (pss_one (ps_ret (pe_fn D.d51 G51 hr (by rfl) (pa_cons (pe_c (by rfl) D.e2) pa_nil)))) pss_nil)
    (pss_cons (ps_if (pt_not (pt_val (pe_fn D.d54 G54 hr (by rfl) (pa_cons (pv 3) pa_nil)))) (pss_one (ps_ret (pe_fn D.d51 G51 hr (by rfl) (pa_cons (pe_c (by rfl) D.e22) pa_nil)))) pss_nil)
    (pss_one (ps_ret (pe_lst (pa_cons (pe_fn D.d56 G56 hr (by rfl) (pa_cons (pe_fn D.d31 G31 hr (by rfl) (pa_cons (pv 0) (pa_cons (pv 2) (pa_cons (pv 3) pa_nil)))) pa_nil)) pa_nil)))))), ?_⟩
  refine ⟨_, rfl, p, _, rfl, .inl (.inl hp), rfl, _, _, rfl, _, _, rfl, rfl, ?_⟩
  refine ⟨_, rfl, _, rfl, a, I, N, i, rfl, J, ⟨_, rfl, ?_⟩⟩
  have F : Fin CC CI H a N Q (oSafeW I i m) := F
  unfold oSafeW at F
  by_cases c : i < I.cs.length
  · rw [if_neg (by omega)] at F
    rw [decide_eq_true c]
    refine iteF ⟨_, rfl, m, rfl, ⟨_, rfl, ?_⟩⟩
    by_cases c2 : 1 ≤ m ∧ m ≤ 3
    · rw [if_neg (by omega)] at F
      rw [decide_eq_true c2]
      refine iteF ⟨_, rfl, _, rfl, _, rfl, a, I, N, i, m, rfl, J, ⟨O, c, c2.1, c2.2⟩, fun H1 s1 => ⟨_, rfl, by show 1 ≤ sizeLine; decide, fun u nu => ?_⟩⟩
      exact Fin.read (l := b01 (sf (setM I i m))) F J tr (s1.trans (same_upd nu)) (s1.free nu) upd_same
    · rw [if_pos (by omega)] at F
      rw [decide_eq_false c2]
      exact iteT ⟨22, rfl, fun H' q s n e => F.read J tr s n e⟩
  · rw [if_pos (by omega)] at F
    rw [decide_eq_false c]
    exact iteT ⟨2, rfl, fun H' q s n e => F.read J tr s n e⟩
/-! ### 19: min_common_max_age -/
theorem sc78 : FnScope ["instance", "parameters", "max_age"] nIP (defScope (topS 78)) := ⟨rfl, rfl, rfl, by decide +kernel, rfl, by decide +kernel, by decide +kernel⟩
theorem min_at {I : Ins} : ∀ {i : Nat}, i < 3 → (∀ j, j < i → sf (common I (j + 1)) = false) → sf (common I (i + 1)) = true → oMin I = (I, [((i + 1 : Nat) : Int)])
  | 0, _, _, h => by
    unfold oMin
    rw [if_pos h]
    rfl
  | 1, _, h, h1 => by
    unfold oMin
    have h0 := h 0 (by omega)
    rw [if_neg (by rw [h0]; exact Bool.false_ne_true), if_pos h1]
    rfl
  | 2, _, h, h2 => by
    unfold oMin
    have h0 := h 0 (by omega)
    have h1 := h 1 (by omega)
    rw [if_neg (by rw [h0]; exact Bool.false_ne_true), if_neg (by rw [h1]; exact Bool.false_ne_true), if_pos h2]
    rfl
  | n + 3, h, _, _ => absurd h (by omega)
theorem min_no {I : Ins} (h : ∀ j, j < 3 → sf (common I (j + 1)) = false) : oMin I = (I, [-33]) := by
  unfold oMin
  have h0 := h 0 (by omega)
  have h1 := h 1 (by omega)
  have h2 := h 2 (by omega)
  rw [if_neg (by rw [h0]; exact Bool.false_ne_true), if_neg (by rw [h1]; exact Bool.false_ne_true), if_neg (by rw [h2]; exact Bool.false_ne_true)]
theorem ok78 {k : Nat} (D : All K mg fa fd CC CI CR) : FnOk P w K mg base CX0 (k + 9) (fa 78) (fd 78) nIP (spOp CC CI 19) := by
  have G51 : FnOk P w K mg base CX0 (k + 8) (fa 51) (fd 51) ["code"] spRefused := ok51 D
  have G33 : FnOk P w K mg base CX0 (k + 8) (fa 33) (fd 33) ["instance", "max_age"] (spCommon CC CI) := ok33 D
  refine D.d78.F.ok sc78 spOp_len (fun cdv A outer s H vs Q E hr h => ?_)
  obtain ⟨a, p, I, ps, N, rfl, J, hp, ⟨O, hl, tr⟩, F⟩ := h
  obtain rfl := List.eq_nil_of_length_eq_zero (show ps.length = 0 from hl)
  have nd := sc78.nd
  refine ⟨_, pss_cons (ps_for PassesOwn.never rfl (pi_range2 (by rfl) D.T.bRange (pa_cons (pe_c (by rfl) D.c1) (pa_cons (pe_op op_add (pe_c (by rfl) D.c3) pe_int) pa_nil))) (pg_name (i := 2) nd rfl (.inl rfl))
      (pss_one (ps_if (pt_val (pe_fn D.d33 G33 hr (by rfl) (pa_cons (pv 0) (pa_cons (pv 2) pa_nil)))) (pss_one (ps_ret (pe_lst (pa_cons (pv 2) pa_nil)))) pss_nil)))
    (pss_one (ps_ret (pe_fn D.d51 G51 hr (by rfl) (pa_cons (pe_c (by rfl) D.e33) pa_nil)))), ?_⟩
  have F : Fin CC CI H a N Q (oMin I) := F
  refine ⟨_, _, rfl, rfl, _, _, rfl, ⟨by decide, by decide, by decide, by decide⟩, ?_⟩
  rw [show ((3 : Int) + 1 - 1).toNat = 3 from rfl]
  refine for_range (lo := 1) (n := 3) (fun i σ H' => ∃ y2, σ = [some (.ref a), some (.ref p), y2] ∧ Same H H' ∧ ∀ j, j < i → sf (common I (j + 1)) = false) ⟨none, rfl, Same.refl H, fun j hj => absurd hj (Nat.not_lt_zero _)⟩ ?_ ?_
  · rintro i σ H1 hi ⟨y2, rfl, sm, no⟩
    have ei : (1 : Int) + (i : Nat) = ((i + 1 : Nat) : Int) := by omega
    refine ⟨_, rfl, _, rfl, a, I, N, i + 1, by rw [← ei]; rfl, J.same sm, ⟨O, by omega, by omega⟩, fun H2 s2 => ⟨_, rfl, ?_⟩⟩
    refine ifB (fun t => ?_) (fun t => ?_)
    · refine ⟨_, rfl, by show 1 ≤ sizeLine; decide, fun u nu => ?_⟩
      rw [min_at hi no t] at F
      have s02 := sm.trans s2
      exact F.read J tr (s02.trans (same_upd nu)) (s02.free nu) (by rw [upd_same, ei]; rfl)
    · refine ⟨_, rfl, sm.trans s2, fun j hj => ?_⟩
      by_cases e : j < i
      · exact no j e
      · obtain rfl : j = i := by omega
        exact t
  · rintro σ H1 ⟨y2, rfl, sm, no⟩
    rw [min_no no] at F
    exact ⟨33, rfl, fun H' q s n e => F.read J tr (sm.trans s) (sm.free n) e⟩
/-! ### 20: required_trips -/
abbrev n79 : List Str := ["instance", "parameters", "trips", "channel"]
theorem sc79 : FnScope n79 nIP (defScope (topS 79)) := ⟨rfl, rfl, rfl, by decide +kernel, rfl, by decide +kernel, by decide +kernel⟩
theorem ok79 {k : Nat} (D : All K mg fa fd CC CI CR) : FnOk P w K mg base CX0 (k + 1) (fa 79) (fd 79) nIP (spOp CC CI 20) := by
  refine D.d79.F.ok sc79 spOp_len (fun cdv A outer s H vs Q E hr h => ?_)
  obtain ⟨a, p, I, ps, N, rfl, ⟨dx, l, g, as, J⟩, hp, ⟨O, hl, tr⟩, F⟩ := h
  obtain rfl := List.eq_nil_of_length_eq_zero (show ps.length = 0 from hl)
  have nd := sc79.nd
  refine ⟨_, pss_cons (ps_set (i := 2) nd rfl (.inl rfl) (pe_callB (cr_sum rfl) (by rfl) D.bSum (by decide +kernel) (pa_cons (pe_lc (own := [("channel", 3)]) (g := gName 3) (tt := tYes) rfl nd (pi_list (pe_fld (pv 0) rfl)) (blkOk_by (N := n79) (sc := defScope (topS 79)) (by decide +kernel))
        (fun _ _ _ _ _ => pg_name (i := 3) nd rfl (Or.inl rfl)) (fun _ _ _ _ _ => pts_nil)
        (fun _ _ _ _ _ => pe_op op_fdiv (pe_c (by rfl) D.cHt) (pe_op op_add (pe_fldK (K0 := K) (pv 3) rfl) pe_int))) pa_nil)))
    (pss_one (ps_ret (pe_lst (pa_cons (pv 2) (pa_cons (pe_c (by rfl) D.cHt) pa_nil))))), ?_⟩
  obtain ⟨as', hl', lenA, each⟩ := J.chs.len
  have few := O.few
  have hL : SqL K H l (as'.map V.ref) := .inl (.inl hl')
  refine ⟨_, rfl, a, CI, dx, _, _, rfl, J.ho, D.T.clI, D.nCs, inF_cs I l g, l, rfl, ⟨_, hL⟩, fun o no => ?_⟩
  refine lc_list (K := K) (xs := as'.map V.ref) (fun i H' => Same H H' ∧ H' o = some (.lst (nints ((I.cs.take i).map fun c => 12 / (c.m + 1))))) ⟨same_upd no, upd_same⟩ (fun i H' _ h => h.1.seq hL) ?_ ?_
  · rintro i x H1 hx ⟨sm, ho⟩
    obtain ⟨c, hc, rfl⟩ := map_get hx
    have hi : i < I.cs.length := by
      have := (List.getElem?_eq_some_iff.mp hc).1
      omega
    obtain ⟨c', hc', dc, hch⟩ := each i I.cs[i] (List.getElem?_eq_getElem hi)
    rw [hc] at hc'
    obtain rfl := Option.some.inj hc'
    have hm3 := O.hm _ (List.getElem_mem hi)
    refine ⟨rfl, _, rfl, c, CC, dc, _, _, rfl, sm _ _ hch, D.T.cl, D.T.nM, chF_m _, _, _, rfl, rfl, _, _, rfl, rfl, ⟨by omega, by omega⟩, _, ho, ?_, fun b z e => ?_, ?_⟩
    · rw [nints_len, List.length_map, List.length_take]
      exact small1000 (by omega)
    · rw [upd_ne (ne_of_none e no)]
      exact sm _ _ e
    · rw [upd_same, take_snoc (List.getElem?_eq_getElem hi), List.map_append, nints_append]
      have e1 : (12 : Int) / (((I.cs[i]).m : Int) + 1) = ((12 / ((I.cs[i]).m + 1) : Nat) : Int) := by
        rw [Int.natCast_ediv]
        rfl
      exact congrArg (fun z => some (HO.lst (nints (List.map (fun c => 12 / (c.m + 1)) (List.take i I.cs)) ++ [V.int z]))) e1
  · rintro H1 ⟨sm, ho⟩
    rw [List.length_map, lenA, List.take_length] at ho
    refine ⟨o, zs (I.cs.map fun c => 12 / (c.m + 1)), rfl, .inl (.inl (by rw [nints_zs]; exact ho)), ?_⟩
    rw [zs_sum]
    refine ⟨_, rfl, by show 2 ≤ sizeLine; decide, fun u nu => ?_⟩
    exact Fin.read (l := [((I.cs.map fun c => 12 / (c.m + 1)).sum : Nat), 12]) F ⟨dx, l, g, as, J⟩ tr (sm.trans (same_upd nu)) (sm.free nu) upd_same
/-! ### 21: list_channels -/
theorem sc80 : FnScope ["instance", "parameters", "listed", "channel", "age"] nIP (defScope (topS 80)) := ⟨rfl, rfl, rfl, by decide +kernel, rfl, by decide +kernel, by decide +kernel⟩
theorem ok80 {k : Nat} (D : All K mg fa fd CC CI CR) : FnOk P w K mg base CX0 (k + 1) (fa 80) (fd 80) nIP (spOp CC CI 21) := by
  refine D.d80.F.ok sc80 spOp_len (fun cdv A outer s H vs Q E hr h => ?_)
  obtain ⟨a, p, I, ps, N, rfl, ⟨dx, l, g, as, J⟩, hp, ⟨O, hl, tr⟩, F⟩ := h
  obtain rfl := List.eq_nil_of_length_eq_zero (show ps.length = 0 from hl)
  have nd := sc80.nd
  refine ⟨_, pss_cons (ps_set (i := 2) nd rfl (.inl rfl) (pe_lst (pa_cons (pe_callB call_len_seq (by rfl) D.T.bLen PySem.boot_len (pa_cons (pe_fld (pv 0) rfl) pa_nil)) pa_nil)))
    (pss_cons (ps_for PassesOwn.never rfl (pi_zip (by rfl) D.T.bZip (pa_cons (pe_fld (pv 0) rfl) (pa_cons (pe_fld (pv 0) rfl) pa_nil)))
        (pg_tup rfl (pgs_cons (pg_name (i := 3) nd rfl (.inl rfl)) (pgs_cons (pg_name (i := 4) nd rfl (.inl rfl)) pgs_nil)))
        (pss_one (ps_expr (pe_bm PySem.F.plainAttrs_list PySem.F.slot_list_extend PySem.F.type_list_extend mt_extend (pv 2)
          (pa_cons (pe_lst (pa_cons (pe_fld (pv 3) rfl) (pa_cons (pe_fld (pv 3) rfl) (pa_cons (pe_fld (pv 3) rfl) (pa_cons (pv 4) pa_nil))))) pa_nil)))))
    (pss_one (ps_ret (pv 2)))), ?_⟩
  obtain ⟨as', hl', lenA, each⟩ := J.chs.len
  have few := O.few
  have hL : SqL K H l (as'.map V.ref) := .inl (.inl hl')
  have hG : SqL K H g (nints I.ag) := .inl (.inl J.hg)
  refine ⟨_, rfl, a, CI, dx, _, _, rfl, J.ho, D.T.clI, D.nCs, inF_cs I l g, l, _, rfl, .inl hL, by show 1 ≤ sizeLine; decide, fun o no => ?_⟩
  rw [List.length_map, lenA]
  have s1 := same_upd (o := .lst [V.int (I.cs.length : Nat)]) no
  have J1 := J.same s1
  refine ⟨_, rfl, a, CI, dx, _, _, rfl, J1.ho, D.T.clI, D.nCs, inF_cs I l g, _, rfl, a, CI, dx, _, _, rfl, J1.ho, D.T.clI, D.nAg, inF_ag I l g, l, g, as'.map V.ref, nints I.ag, rfl, s1.seq hL, s1.seq hG, ?_⟩
  have en : I.cs.length = min (as'.map V.ref).length (nints I.ag).length := by
    rw [List.length_map, nints_len, lenA, O.len, Nat.min_self]
  refine for_it (walk_zip en) (fun i σ H' => ∃ y3 y4, σ = [some (.ref a), some (.ref p), some (.ref o), y3, y4] ∧ Same H H' ∧ H' o = some (.lst (((I.cs.length : Int) :: listed (I.cs.take i) (I.ag.take i)).map V.int)))
    ⟨none, none, rfl, s1, upd_same⟩ (fun i σ H' _ ⟨_, _, _, sm, _⟩ => ⟨sm.seq hL, sm.seq hG⟩) ?_ ?_
  · rintro i x σ H1 H2 hi ⟨y3, y4, rfl, sm, ho⟩ ⟨u, xx, yy, rfl, nt, rfl, e1, e2⟩
    obtain ⟨c, hc, rfl⟩ := map_get e1
    obtain ⟨n, hn, rfl⟩ := map_get e2
    obtain ⟨c', hc', dc, hch⟩ := each i I.cs[i] (List.getElem?_eq_getElem hi)
    rw [hc] at hc'
    obtain rfl := Option.some.inj hc'
    have st := same_upd (o := .tup [V.ref c, V.int (n : Nat)]) nt
    have hot := st _ _ ho
    have hct := st _ _ (sm _ _ hch)
    have smt : Same H _ := sm.trans st
    have ht : upd H1 u (.tup [V.ref c, V.int (n : Nat)]) u = some (.tup [V.ref c, V.int (n : Nat)]) := upd_same
    generalize upd H1 u (.tup [V.ref c, V.int (n : Nat)]) = H3 at hot hct smt ht
    refine ⟨u, _, rfl, .inl (.inl ht), rfl, _, _, rfl, _, _, rfl, rfl, ?_⟩
    refine ⟨_, rfl, .inl ⟨rfl, _, .inl (.inl hot)⟩, ?_⟩
    refine ⟨_, rfl, c, CC, dc, _, _, rfl, hct, D.T.cl, D.T.nA, chF_a _, _, rfl, c, CC, dc, _, _, rfl, hct, D.T.cl, D.T.nB, chF_b _, _, rfl, c, CC, dc, _, _, rfl, hct, D.T.cl, D.T.nM, chF_m _, _, rfl, by show 4 ≤ sizeLine; decide, fun v nv => ?_⟩
    have sv := same_upd (o := .lst [V.int ((I.cs[i]).a : Nat), V.int ((I.cs[i]).b : Nat), V.int ((I.cs[i]).m : Nat), V.int (n : Nat)]) nv
    have lenT : (I.cs.take i).length = (I.ag.take i).length := by rw [List.length_take, List.length_take, O.len]
    refine ⟨o, v, _, _, rfl, rfl, sv _ _ hot, upd_same, ?_, ?_⟩
    · rw [List.length_map, List.length_cons, listed_len _ _ lenT, List.length_take]
      exact Nat.le_of_lt (small1000 (by show _ + 4 ≤ 1000; omega))
    · refine ⟨_, _, rfl, fun b z e => ?_, ?_⟩
      · rw [upd_ne (ne_of_none e no)]
        exact sv _ _ (smt _ _ e)
      · rw [upd_same, take_snoc (List.getElem?_eq_getElem hi), take_snoc hn, listed_snoc _ _ _ _ lenT]
        simp only [List.map_cons, List.map_append, List.cons_append]
        rfl
  · rintro σ H1 ⟨y3, y4, rfl, sm, ho⟩
    rw [List.take_length, ← O.len, List.take_length] at ho
    refine ⟨_, rfl, Fin.read (l := (I.cs.length : Int) :: listed I.cs I.ag) F ⟨dx, l, g, as, J⟩ tr sm no ?_⟩
    rw [ho, O.len]
/-! ### 22: summary -/
theorem sc81 : FnScope nIP nIP (defScope (topS 81)) := ⟨rfl, rfl, rfl, by decide +kernel, rfl, by decide +kernel, by decide +kernel⟩
theorem ok81 {k : Nat} (D : All K mg fa fd CC CI CR) : FnOk P w K mg base CX0 (k + 1) (fa 81) (fd 81) nIP (spOp CC CI 22) := by
  refine D.d81.F.ok sc81 spOp_len (fun cdv A outer s H vs Q E hr h => ?_)
  obtain ⟨a, p, I, ps, N, rfl, ⟨dx, l, g, as, J⟩, hp, ⟨O, hl, tr⟩, F⟩ := h
  obtain rfl := List.eq_nil_of_length_eq_zero (show ps.length = 0 from hl)
  refine ⟨_, pss_one (ps_ret (pe_lst (pa_cons (pe_fld (pv 0) rfl) (pa_cons (pe_callB call_len_seq (by rfl) D.T.bLen PySem.boot_len (pa_cons (pe_fld (pv 0) rfl) pa_nil)) (pa_cons (pe_fld (pv 0) rfl) (pa_cons (pe_fld (pv 0) rfl) pa_nil)))))), ?_⟩
  refine ⟨_, rfl, a, CI, dx, _, _, rfl, J.ho, D.T.clI, D.nPc, inF_pc I l g, _, rfl, a, CI, dx, _, _, rfl, J.ho, D.T.clI, D.nCs, inF_cs I l g, l, _, rfl, .inl (.inl (.inl J.hl)), ?_⟩
  refine ⟨_, rfl, a, CI, dx, _, _, rfl, J.ho, D.T.clI, D.nPl, inF_pl I l g, _, rfl, a, CI, dx, _, _, rfl, J.ho, D.T.clI, D.nHe, inF_he I l g, by show 4 ≤ sizeLine; decide, fun u nu => ?_⟩
  refine Fin.read (l := [(I.pc : Int), (I.cs.length : Int), (I.pl : Int), (I.he : Int)]) F ⟨dx, l, g, as, J⟩ tr (same_upd nu) nu ?_
  rw [upd_same, List.length_map, Paired.length J.hc]
  rfl
end
end OL
namespace OL
open PySem PySem.Spec PyProof.Rows L2
theorem paired_erase {R : Addr → Ch → Prop} : ∀ {as : List Addr} {cs : List Ch} (i : Nat), Paired R as cs → Paired R (as.eraseIdx i) (cs.eraseIdx i)
  | _, _, _, .nil => .nil
  | _, _, 0, .cons _ t => t
  | _, _, i + 1, .cons r t => .cons r (paired_erase i t)
theorem ixN_of {n j : Nat} (h : j < n) : ixN n (j : Int) = some j := by
  unfold ixN
  rw [if_pos (Int.natCast_nonneg j), if_pos (by omega)]
  rfl
theorem nints_erase (l : List Nat) (i : Nat) : (nints l).eraseIdx i = nints (l.eraseIdx i) := by
  unfold nints
  exact (erase_map _ l i).symm
theorem follow_snoc : ∀ (l : List Nat) (I : Ins) (m : Nat), follow I (l ++ [m]) = moved (follow I l) m
  | [], _, _ => rfl
  | x :: l, I, m => follow_snoc l (moved I x) m
theorem follow_ok : ∀ (G : List (List Sta)) (I : Ins), Ok I → Runs I.cs I.st G → ∀ (i m : Nat), (smallest I.cs I.st G)[i]? = some m →
    Ok (follow I ((smallest I.cs I.st G).take i)) ∧ m ≤ (follow I ((smallest I.cs I.st G).take i)).cs.length ∧ opens (follow I ((smallest I.cs I.st G).take i)).cs (after (follow I ((smallest I.cs I.st G).take i)).cs (follow I ((smallest I.cs I.st G).take i)).st m).2 = true
  | [], _, _, _, i, m, e => by cases e
  | g :: G, I, O, R, i, m, e => by
    have hm := head_mem R.1
    have op := (List.mem_filter.mp (List.mem_filter.mp hm).1).2
    cases i with
    | zero =>
      have e1 : (into I.cs I.st g).headD 0 = m := Option.some.inj e
      rw [← e1]
      exact ⟨O, into_le hm, op⟩
    | succ j =>
      exact follow_ok G (moved I ((into I.cs I.st g).headD 0)) (ok_moved O (into_le hm) op) R.2 j m e
section
variable {P : Program} {w : World} {K : PySem.W.Frag} {mg : Str → Option Value} {base : Heap} {fa : Nat → Addr} {fd : Nat → FuncData} {CC CI CR : Addr}
/-! ### 1: add_channel -/
theorem sc58 : FnScope ["instance", "parameters", "end_a", "end_b", "max_age"] nIP (defScope (topS 58)) := ⟨rfl, rfl, rfl, by decide +kernel, rfl, by decide +kernel, by decide +kernel⟩
theorem ok58 {k : Nat} (D : All K mg fa fd CC CI CR) : FnOk P w K mg base CX0 (k + 3) (fa 58) (fd 58) nIP (spOp CC CI 1) := by
  have G51 : FnOk P w K mg base CX0 (k + 2) (fa 51) (fd 51) ["code"] spRefused := ok51 D
  have G52 : FnOk P w K mg base CX0 (k + 2) (fa 52) (fd 52) ["instance", "place"] (spIsPlace CC CI) := ok52 D
  have G54 : FnOk P w K mg base CX0 (k + 2) (fa 54) (fd 54) ["max_age"] spIsMax := ok54 D
  have GC : FnOk P w K mg base CX0 (k + 1) (fa 100) (fd 100) ["self", "end_a", "end_b", "max_age"] (spInitC CC) := ok_initC D
  refine D.d58.F.ok sc58 spOp_len (fun cdv A outer s H vs Q E hr h => ?_)
  obtain ⟨a, p, I, ps, N, rfl, ⟨dx, l, g, as, J⟩, hp, ⟨O, hl, tr⟩, F⟩ := h
  obtain ⟨x, y, m, rfl⟩ := len3 (show ps.length = 3 from hl)
  have nd := sc58.nd
  refine ⟨_, pss_cons (ps_asg (pv 1) (pg_lst rfl (pgs_cons (pg_name (i := 2) nd rfl (.inl rfl)) (pgs_cons (pg_name (i := 3) nd rfl (.inl rfl)) (pgs_cons (pg_name (i := 4) nd rfl (.inl rfl)) pgs_nil)))))
    (pss_cons (ps_if (PW.pt (pw_or (pt_not (pt_val (pe_fn D.d52 G52 hr (by rfl) (pa_cons (pv 0) (pa_cons (pv 2) pa_nil))))) (pw_or1 (pt_not (pt_val (pe_fn D.d52 G52 hr (by rfl) (pa_cons (pv 0) (pa_cons (pv 3) pa_nil))))))))
      (pss_one (ps_ret (pe_fn D.d51 G51 hr (by rfl) (pa_cons (pe_c (by rfl) D.e2) pa_nil)))) pss_nil)
    (pss_cons (ps_if (PW.pt (pw_or (pt_cmpR op_eq (pv 2) (pv 3) (nomark _)) (pw_or1 (pt_not (pt_val (pe_fn D.d54 G54 hr (by rfl) (pa_cons (pv 4) pa_nil)))))))
      (pss_one (ps_ret (pe_fn D.d51 G51 hr (by rfl) (pa_cons (pe_c (by rfl) D.e22) pa_nil)))) pss_nil)
    (pss_cons (ps_if (pt_cmpR op_eq (pe_callB call_len_seq (by rfl) D.T.bLen PySem.boot_len (pa_cons (pe_fld (pv 0) rfl) pa_nil)) (pe_c (by rfl) D.cMc) (nomark _))
      (pss_one (ps_ret (pe_fn D.d51 G51 hr (by rfl) (pa_cons (pe_c (by rfl) D.e28) pa_nil)))) pss_nil)
    (pss_cons (ps_expr (pe_bm PySem.F.plainAttrs_list PySem.F.slot_list_append PySem.F.type_list_append mt_append (pe_fld (pv 0) rfl)
      (pa_cons (pe_make D.mC GC hr (by rfl) D.gC D.bC .nil pass0 (pa_cons (pv 2) (pa_cons (pv 3) (pa_cons (pv 4) pa_nil)))) pa_nil)))
    (pss_cons (ps_expr (pe_bm PySem.F.plainAttrs_list PySem.F.slot_list_append PySem.F.type_list_append mt_append (pe_fld (pv 0) rfl) (pa_cons pe_int pa_nil)))
    (pss_one (ps_ret (pe_lst (pa_cons (pe_op op_sub (pe_callB call_len_seq (by rfl) D.T.bLen PySem.boot_len (pa_cons (pe_fld (pv 0) rfl) pa_nil)) pe_int) pa_nil))))))))), ?_⟩
  have F : Fin CC CI H a N Q (oAdd I x y m) := F
  unfold oAdd at F
  have lenA : as.length = I.cs.length := Paired.length J.hc
  refine ⟨_, rfl, p, _, rfl, .inl (.inl hp), rfl, _, _, rfl, _, _, rfl, _, _, rfl, rfl, ?_⟩
  have ref2 : I.pc ≤ x ∨ I.pc ≤ y → ∀ H' q, Same H H' → H q = none → H' q = some (.lst [.int (-2)]) → Q (.ref q) H' := fun c H' q s n e => by
    rw [if_pos c] at F
    exact F.read ⟨dx, l, g, as, J⟩ tr s n e
  refine ⟨_, rfl, _, rfl, a, I, N, x, rfl, ⟨dx, l, g, as, J⟩, _, rfl, ?_⟩
  by_cases cx : x < I.pc
  · rw [decide_eq_true cx]
    refine iteF ⟨_, rfl, _, rfl, a, I, N, y, rfl, ⟨dx, l, g, as, J⟩, _, rfl, ?_⟩
    by_cases cy : y < I.pc
    · rw [decide_eq_true cy]
      rw [if_neg (by omega)] at F
      have ref22 : x = y ∨ m = 0 ∨ 3 < m → ∀ H' q, Same H H' → H q = none → H' q = some (.lst [.int (-22)]) → Q (.ref q) H' := fun c H' q s n e => by
        rw [if_pos c] at F
        exact F.read ⟨dx, l, g, as, J⟩ tr s n e
      refine iteF ⟨_, rfl, _, rfl, rfl, _, rfl, ?_⟩
      rw [nat_eq]
      by_cases cxy : x = y
      · rw [decide_eq_true cxy]
        exact iteT (iteT ⟨22, rfl, ref22 (.inl cxy)⟩)
      · rw [decide_eq_false cxy]
        refine iteF ⟨_, rfl, m, rfl, _, rfl, ?_⟩
        by_cases cm : 1 ≤ m ∧ m ≤ 3
        · rw [decide_eq_true cm]
          rw [if_neg (by omega)] at F
          refine iteF ⟨_, rfl, a, CI, dx, _, _, rfl, J.ho, D.T.clI, D.nCs, inF_cs I l g, l, _, rfl, .inl (.inl (.inl J.hl)), rfl, _, rfl, ?_⟩
          rw [List.length_map, lenA, show decide (V.int (I.cs.length : Nat) = V.int 3) = decide (I.cs.length = 3) from nat_eq (j := 3)]
          have few := O.few
          by_cases c3 : I.cs.length = 3
          · rw [decide_eq_true c3]
            rw [if_pos (by omega)] at F
            exact iteT ⟨28, rfl, fun H' q s n e => F.read ⟨dx, l, g, as, J⟩ tr s n e⟩
          · rw [decide_eq_false c3]
            rw [if_neg (by omega)] at F
            refine iteF ⟨_, rfl, a, CI, dx, _, _, rfl, J.ho, D.T.clI, D.nCs, inF_cs I l g, .inl ⟨rfl, _, .inl (.inl J.hl)⟩, _, rfl, _, rfl, _, rfl, ?_⟩
            intro z dz nz ndz dzz
            refine ⟨z, dz, ⟨x, y, m⟩, rfl, upd_same, rfl, ?_⟩
            rw [upd_upd]
            have s3 : Same H (upd (upd H dz (.own z)) z (.ins CC dz (chF ⟨x, y, m⟩))) := fun b o e => by rw [upd_ne (ne_of_none e nz), upd_ne (ne_of_none e ndz)]; exact e
            have hz3 : upd (upd H dz (.own z)) z (.ins CC dz (chF ⟨x, y, m⟩)) z = some (.ins CC dz (chF ⟨x, y, m⟩)) := upd_same
            generalize upd (upd H dz (.own z)) z (.ins CC dz (chF ⟨x, y, m⟩)) = H3 at s3 hz3
            have J3 := J.same s3
            have zl : z ≠ l := ne_of hz3 J3.hl (fun q => nomatch q)
            have zg : z ≠ g := ne_of hz3 J3.hg (fun q => nomatch q)
            have al : a ≠ l := ne_of J3.ho J3.hl (fun q => nomatch q)
            have ag : a ≠ g := ne_of J3.ho J3.hg (fun q => nomatch q)
            have zas : z ∉ as := fun q => by
              obtain ⟨c0, d0, e0⟩ := paired_memC J.hc q
              rw [nz] at e0
              cases e0
            refine ⟨l, _, _, rfl, rfl, J3.hl, by rw [List.length_map, lenA]; exact small1000 (by omega), ?_⟩
            have ho4 : upd H3 l (.lst (as.map V.ref ++ [V.ref z])) a = some (.ins CI dx (inF I l g)) := (upd_ne al).trans J3.ho
            have hg4 : upd H3 l (.lst (as.map V.ref ++ [V.ref z])) g = some (.lst (nints I.ag)) := (upd_ne (Ne.symm J.lg)).trans J3.hg
            refine ⟨_, rfl, a, CI, dx, _, _, rfl, ho4, D.T.clI, D.nAg, inF_ag I l g, .inl ⟨rfl, _, .inl (.inl hg4)⟩, ?_⟩
            refine ⟨g, _, _, rfl, rfl, hg4, by rw [nints_len, O.len]; exact small1000 (by omega), ?_⟩
            have up : ∀ {b : Addr}, b ≠ l → b ≠ g → upd (upd H3 l (.lst (as.map V.ref ++ [V.ref z]))) g (.lst (nints I.ag ++ [V.int 0])) b = H3 b := fun h1 h2 => by rw [upd_ne h2, upd_ne h1]
            have hl5 : upd (upd H3 l (.lst (as.map V.ref ++ [V.ref z]))) g (.lst (nints I.ag ++ [V.int 0])) l = some (.lst ((as ++ [z]).map V.ref)) := by
              rw [upd_ne J.lg, upd_same, List.map_append]
              rfl
            have hg5 : upd (upd H3 l (.lst (as.map V.ref ++ [V.ref z]))) g (.lst (nints I.ag ++ [V.int 0])) g = some (.lst (nints (I.ag ++ [0]))) := by
              rw [upd_same, nints_append]
              rfl
            generalize upd (upd H3 l (.lst (as.map V.ref ++ [V.ref z]))) g (.lst (nints I.ag ++ [V.int 0])) = H5 at up hl5 hg5
            have ho5 : H5 a = some (.ins CI dx (inF I l g)) := (up al ag).trans J3.ho
            have up2 : ∀ b c, ChAt CC H3 b c → ChAt CC H5 b c := fun b c ⟨d, e⟩ => ⟨d, by rw [up (ne_of e J3.hl (fun q => nomatch q)) (ne_of e J3.hg (fun q => nomatch q))]; exact e⟩
            have J5 : InsD CC CI H5 a { I with cs := I.cs ++ [⟨x, y, m⟩], ag := I.ag ++ [0] } N dx l g (as ++ [z]) := by
              refine ⟨ho5, hl5, paired_snocC (Paired.mapP J3.hc up2) (up2 _ _ ⟨dz, hz3⟩), nodup_snoc J.nd zas, hg5, J.lg, J.na, J.nl, J.ng, fun b hb => ?_⟩
              rcases List.mem_append.mp hb with hb | hb
              · exact J.ns b hb
              · rw [List.mem_singleton.mp hb]
                exact tr.new nz
            have k5 : Keep N H H5 := fun b o e n => by
              rw [up (fun q : b = l => J.nl (q ▸ n)) (fun q : b = g => J.ng (q ▸ n))]
              exact s3 _ _ e
            refine ⟨_, rfl, a, CI, dx, _, _, rfl, ho5, D.T.clI, D.nCs, inF_cs I l g, l, _, rfl, .inl (.inl (.inl hl5)), _, _, rfl, rfl, by show 1 ≤ sizeLine; decide, fun u nu => ?_⟩
            have su := same_upd (o := .lst [V.int ((((as ++ [z]).map V.ref).length : Nat) - 1 : Int)]) nu
            refine F _ u (k5.trans (Same.keep su N)) ⟨dx, l, g, as ++ [z], J5.same su⟩ ((tr.keep k5).new nu) ?_
            have e1 : (((as ++ [z]).map V.ref).length : Int) - 1 = (I.cs.length : Int) := by
              rw [List.length_map, List.length_append, lenA]
              show ((I.cs.length + 1 : Nat) : Int) - 1 = _
              omega
            rw [upd_same]
            exact congrArg (fun q => some (HO.lst [V.int q])) e1
        · rw [decide_eq_false cm]
          exact iteT ⟨22, rfl, ref22 (.inr (by omega))⟩
    · rw [decide_eq_false cy]
      exact iteT ⟨2, rfl, ref2 (.inr (by omega))⟩
  · rw [decide_eq_false cx]
    exact iteT (iteT ⟨2, rfl, ref2 (.inl (by omega))⟩)
/-! ### 2: remove_channel -/
theorem sc59 : FnScope ["instance", "parameters", "number"] nIP (defScope (topS 59)) := ⟨rfl, rfl, rfl, by decide +kernel, rfl, by decide +kernel, by decide +kernel⟩
theorem ok59 {k : Nat} (D : All K mg fa fd CC CI CR) : FnOk P w K mg base CX0 (k + 2) (fa 59) (fd 59) nIP (spOp CC CI 2) := by
  have G51 : FnOk P w K mg base CX0 (k + 1) (fa 51) (fd 51) ["code"] spRefused := ok51 D
  have G53 : FnOk P w K mg base CX0 (k + 1) (fa 53) (fd 53) ["instance", "channel"] (spIsCh CC CI) := ok53 D
  refine D.d59.F.ok sc59 spOp_len (fun cdv A outer s H vs Q E hr h => ?_)
  obtain ⟨a, p, I, ps, N, rfl, ⟨dx, l, g, as, J⟩, hp, ⟨O, hl, tr⟩, F⟩ := h
  obtain ⟨i, rfl⟩ := len1 (show ps.length = 1 from hl)
  have nd := sc59.nd
  refine ⟨_, pss_cons (ps_set (i := 2) nd rfl (.inl rfl) (pe_ix ix_list (pv 1) pe_int (fun _ _ => rfl)))
    (pss_cons (ps_if (pt_not (pt_val (pe_fn D.d53 G53 hr (by rfl) (pa_cons (pv 0) (pa_cons (pv 2) pa_nil))))) (pss_one (ps_ret (pe_fn D.d51 G51 hr (by rfl) (pa_cons (pe_c (by rfl) D.e2) pa_nil)))) pss_nil)
    (pss_cons (ps_expr (pe_bm PySem.F.plainAttrs_list PySem.F.slot_list_pop PySem.F.type_list_pop mt_popAt (pe_fld (pv 0) rfl) (pa_cons (pv 2) pa_nil)))
    (pss_cons (ps_expr (pe_bm PySem.F.plainAttrs_list PySem.F.slot_list_pop PySem.F.type_list_pop mt_popAt (pe_fld (pv 0) rfl) (pa_cons (pv 2) pa_nil)))
    (pss_one (ps_ret (pe_lst (pa_cons (pe_callB call_len_seq (by rfl) D.T.bLen PySem.boot_len (pa_cons (pe_fld (pv 0) rfl) pa_nil)) pa_nil))))))), ?_⟩
  have F : Fin CC CI H a N Q (oRemove I i) := F
  unfold oRemove at F
  have lenA : as.length = I.cs.length := Paired.length J.hc
  refine ⟨_, rfl, p, _, _, _, rfl, rfl, .inl (.inl hp), atI_nat (j := 0) rfl, ?_⟩
  refine ⟨_, rfl, _, rfl, a, I, N, i, rfl, ⟨dx, l, g, as, J⟩, _, rfl, ?_⟩
  by_cases c : i < I.cs.length
  · rw [decide_eq_true c]
    rw [if_neg (by omega)] at F
    have few := O.few
    have hi : i < (as.map V.ref).length := by rw [List.length_map, lenA]; exact c
    have hi2 : i < (nints I.ag).length := by rw [nints_len, O.len]; exact c
    refine iteF ⟨_, rfl, a, CI, dx, _, _, rfl, J.ho, D.T.clI, D.nCs, inF_cs I l g, .inl ⟨rfl, _, .inl (.inl J.hl)⟩, _, rfl, l, _, _, i, _, rfl, rfl, J.hl, by omega, by omega, (ixN_seq (ixN_of hi)).1, List.getElem?_eq_getElem hi, ?_⟩
    have al : a ≠ l := ne_of J.ho J.hl (fun q => nomatch q)
    have ag : a ≠ g := ne_of J.ho J.hg (fun q => nomatch q)
    have ho1 : upd H l (.lst ((as.map V.ref).eraseIdx i)) a = some (.ins CI dx (inF I l g)) := (upd_ne al).trans J.ho
    have hg1 : upd H l (.lst ((as.map V.ref).eraseIdx i)) g = some (.lst (nints I.ag)) := (upd_ne (Ne.symm J.lg)).trans J.hg
    refine ⟨_, rfl, a, CI, dx, _, _, rfl, ho1, D.T.clI, D.nAg, inF_ag I l g, .inl ⟨rfl, _, .inl (.inl hg1)⟩, _, rfl, g, _, _, i, _, rfl, rfl, hg1, by omega, by omega, (ixN_seq (ixN_of hi2)).1, List.getElem?_eq_getElem hi2, ?_⟩
    have up : ∀ {b : Addr}, b ≠ l → b ≠ g → upd (upd H l (.lst ((as.map V.ref).eraseIdx i))) g (.lst ((nints I.ag).eraseIdx i)) b = H b := fun h1 h2 => by rw [upd_ne h2, upd_ne h1]
    have hl5 : upd (upd H l (.lst ((as.map V.ref).eraseIdx i))) g (.lst ((nints I.ag).eraseIdx i)) l = some (.lst ((as.eraseIdx i).map V.ref)) := by
      rw [upd_ne J.lg, upd_same, erase_map]
    have hg5 : upd (upd H l (.lst ((as.map V.ref).eraseIdx i))) g (.lst ((nints I.ag).eraseIdx i)) g = some (.lst (nints (I.ag.eraseIdx i))) := by
      rw [upd_same, nints_erase]
    generalize upd (upd H l (.lst ((as.map V.ref).eraseIdx i))) g (.lst ((nints I.ag).eraseIdx i)) = H5 at up hl5 hg5
    have ho5 : H5 a = some (.ins CI dx (inF I l g)) := (up al ag).trans J.ho
    have J5 : InsD CC CI H5 a { I with cs := I.cs.eraseIdx i, ag := I.ag.eraseIdx i } N dx l g (as.eraseIdx i) :=
      ⟨ho5, hl5, paired_erase i (Paired.mapP J.hc fun b c ⟨d, e⟩ => ⟨d, by rw [up (ne_of e J.hl (fun q => nomatch q)) (ne_of e J.hg (fun q => nomatch q))]; exact e⟩), J.nd.sublist (List.eraseIdx_sublist ..), hg5, J.lg, J.na, J.nl, J.ng,
        fun b hb => J.ns b (List.mem_of_mem_eraseIdx hb)⟩
    have k5 : Keep N H H5 := fun b o e n => by
      rw [up (fun q : b = l => J.nl (q ▸ n)) (fun q : b = g => J.ng (q ▸ n))]
      exact e
    refine ⟨_, rfl, a, CI, dx, _, _, rfl, ho5, D.T.clI, D.nCs, inF_cs I l g, l, _, rfl, .inl (.inl (.inl hl5)), by show 1 ≤ sizeLine; decide, fun u nu => ?_⟩
    have su := same_upd (o := .lst [V.int ((((as.eraseIdx i).map V.ref).length : Nat) : Int)]) nu
    refine F _ u (k5.trans (Same.keep su N)) ⟨dx, l, g, _, J5.same su⟩ ((tr.keep k5).new nu) ?_
    rw [upd_same, List.length_map, List.length_eraseIdx, lenA, if_pos c]
    rfl
  · rw [decide_eq_false c]
    rw [if_pos (by omega)] at F
    exact iteT ⟨2, rfl, fun H' q s n e => F.read ⟨dx, l, g, as, J⟩ tr s n e⟩
end
end OL
namespace OL
open PySem PySem.Spec PyProof.Rows L2
section
variable {P : Program} {w : World} {K : PySem.W.Frag} {mg : Str → Option Value} {base : Heap} {fa : Nat → Addr} {fd : Nat → FuncData} {CC CI CR : Addr}
/-- the instance's own object is written: a list of ages g', other numbers -/
theorem InsD.write {H : Hp} {a : Addr} {I I' : Ins} {N : Addr → Prop} {dx l g g' : Addr} {as : List Addr} (J : InsD CC CI H a I N dx l g as) (hcs : I'.cs = I.cs) (hg : H g' = some (.lst (nints I'.ag))) (lg : l ≠ g') (ng : ¬ N g') :
    InsD CC CI (upd H a (.ins CI dx (inF I' l g'))) a I' N dx l g' as := by
  refine ⟨upd_same, ?_, ?_, J.nd, ?_, lg, J.na, J.nl, ng, J.ns⟩
  · rw [upd_ne (ne_of J.hl J.ho (fun z => nomatch z))]
    exact J.hl
  · rw [hcs]
    exact Paired.mapP J.hc fun x c ⟨d, e⟩ => ⟨d, by rw [upd_ne (ne_of e J.ho (Ne.symm ins_ne))]; exact e⟩
  · rw [upd_ne (ne_of hg J.ho (fun z => nomatch z))]
    exact hg
theorem InsD.keepA {H : Hp} {a : Addr} {I : Ins} {N : Addr → Prop} {dx l g : Addr} {as : List Addr} {o : HO} (J : InsD CC CI H a I N dx l g as) : Keep N H (upd H a o) := fun b u e n => by
  rw [upd_ne (fun z : b = a => J.na (z ▸ n))]
  exact e
/-! ### 3: set_max_age -/
theorem sc60 : FnScope ["instance", "parameters", "number", "max_age", "old_max_age"] nIP (defScope (topS 60)) := ⟨rfl, rfl, rfl, by decide +kernel, rfl, by decide +kernel, by decide +kernel⟩
theorem ok60 {k : Nat} (D : All K mg fa fd CC CI CR) : FnOk P w K mg base CX0 (k + 2) (fa 60) (fd 60) nIP (spOp CC CI 3) := by
  have G51 : FnOk P w K mg base CX0 (k + 1) (fa 51) (fd 51) ["code"] spRefused := ok51 D
  have G53 : FnOk P w K mg base CX0 (k + 1) (fa 53) (fd 53) ["instance", "channel"] (spIsCh CC CI) := ok53 D
  have G54 : FnOk P w K mg base CX0 (k + 1) (fa 54) (fd 54) ["max_age"] spIsMax := ok54 D
  have G27 : FnOk P w K mg base CX0 (k + 1) (fa 27) (fd 27) ["instance", "number", "max_age"] (spSetM CC CI) := ok27 D
  refine D.d60.F.ok sc60 spOp_len (fun cdv A outer s H vs Q E hr h => ?_)
  obtain ⟨a, p, I, ps, N, rfl, ⟨dx, l, g, as, J⟩, hp, ⟨O, hl, tr⟩, F⟩ := h
  obtain ⟨i, m, rfl⟩ := len2 (show ps.length = 2 from hl)
  have nd := sc60.nd
  refine ⟨_, pss_cons (ps_asg (pv 1) (pg_lst rfl (pgs_cons (pg_name (i := 2) nd rfl (.inl rfl)) (pgs_cons (pg_name (i := 3) nd rfl (.inl rfl)) pgs_nil))))
    (pss_cons (ps_if (pt_not (pt_val (pe_fn D.d53 G53 hr (by rfl) (pa_cons (pv 0) (pa_cons (pv 2) pa_nil))))) (pss_one (ps_ret (pe_fn D.d51 G51 hr (by rfl) (pa_cons (pe_c (by rfl) D.e2) pa_nil)))) pss_nil)
    (pss_cons (ps_if (pt_not (pt_val (pe_fn D.d54 G54 hr (by rfl) (pa_cons (pv 3) pa_nil)))) (pss_one (ps_ret (pe_fn D.d51 G51 hr (by rfl) (pa_cons (pe_c (by rfl) D.e22) pa_nil)))) pss_nil)
    (pss_cons (ps_set (i := 4) nd rfl (.inl rfl) (pe_fld (pe_ix ix_list (pe_fld (pv 0) rfl) (pv 2) (fun _ _ => rfl)) rfl))
    (pss_cons (ps_expr (pe_fn D.d27 G27 hr (by rfl) (pa_cons (pv 0) (pa_cons (pv 2) (pa_cons (pv 3) pa_nil)))))
    (pss_one (ps_ret (pe_lst (pa_cons (pv 4) pa_nil)))))))), ?_⟩
  have F : Fin CC CI H a N Q (oSetMax I i m) := F
  unfold oSetMax at F
  refine ⟨_, rfl, p, _, rfl, .inl (.inl hp), rfl, _, _, rfl, _, _, rfl, rfl, ?_⟩
  refine ⟨_, rfl, _, rfl, a, I, N, i, rfl, ⟨dx, l, g, as, J⟩, ⟨_, rfl, ?_⟩⟩
  by_cases c : i < I.cs.length
  · rw [if_neg (by omega)] at F
    rw [decide_eq_true c]
    refine iteF ⟨_, rfl, m, rfl, ⟨_, rfl, ?_⟩⟩
    by_cases c2 : 1 ≤ m ∧ m ≤ 3
    · rw [if_neg (by omega)] at F
      rw [decide_eq_true c2]
      obtain ⟨as', hl', lenA, each⟩ := J.chs.len
      obtain ⟨b, hb, db, hch⟩ := each i (chAt I i) (chAt_get c)
      refine iteF ⟨_, rfl, a, CI, dx, _, _, rfl, J.ho, D.T.clI, D.nCs, inF_cs I l g, _, rfl, l, _, _, _, rfl, rfl, .inl (.inl hl'), atI_nat (j := i) (by rw [List.getElem?_map, hb]; rfl), ?_⟩
      refine ⟨b, CC, db, _, _, rfl, hch, D.T.cl, D.T.nM, chF_m _, ?_⟩
      refine ⟨_, rfl, _, rfl, _, rfl, a, I, N, i, m, rfl, ⟨dx, l, g, as, J⟩, ⟨c, O.len⟩, fun H1 k1 J1 => ?_⟩
      refine ⟨_, rfl, by show 1 ≤ sizeLine; decide, fun u nu => ?_⟩
      have su := same_upd (o := .lst [V.int ((chAt I i).m : Nat)]) nu
      exact F _ u (k1.trans (Same.keep su N)) (J1.same su) ((tr.keep k1).new nu) upd_same
    · rw [if_pos (by omega)] at F
      rw [decide_eq_false c2]
      exact iteT ⟨22, rfl, fun H' q s n e => F.read ⟨dx, l, g, as, J⟩ tr s n e⟩
  · rw [if_pos (by omega)] at F
    rw [decide_eq_false c]
    exact iteT ⟨2, rfl, fun H' q s n e => F.read ⟨dx, l, g, as, J⟩ tr s n e⟩
/-! ### 4: set_position -/
theorem sc61 : FnScope ["instance", "parameters", "place", "old_place"] nIP (defScope (topS 61)) := ⟨rfl, rfl, rfl, by decide +kernel, rfl, by decide +kernel, by decide +kernel⟩
theorem ok61 {k : Nat} (D : All K mg fa fd CC CI CR) : FnOk P w K mg base CX0 (k + 2) (fa 61) (fd 61) nIP (spOp CC CI 4) := by
  have G51 : FnOk P w K mg base CX0 (k + 1) (fa 51) (fd 51) ["code"] spRefused := ok51 D
  have G52 : FnOk P w K mg base CX0 (k + 1) (fa 52) (fd 52) ["instance", "place"] (spIsPlace CC CI) := ok52 D
  refine D.d61.F.ok sc61 spOp_len (fun cdv A outer s H vs Q E hr h => ?_)
  obtain ⟨a, p, I, ps, N, rfl, ⟨dx, l, g, as, J⟩, hp, ⟨O, hl, tr⟩, F⟩ := h
  obtain ⟨x, rfl⟩ := len1 (show ps.length = 1 from hl)
  have nd := sc61.nd
  refine ⟨_, pss_cons (ps_set (i := 2) nd rfl (.inl rfl) (pe_ix ix_list (pv 1) pe_int (fun _ _ => rfl)))
    (pss_cons (ps_if (pt_not (pt_val (pe_fn D.d52 G52 hr (by rfl) (pa_cons (pv 0) (pa_cons (pv 2) pa_nil))))) (pss_one (ps_ret (pe_fn D.d51 G51 hr (by rfl) (pa_cons (pe_c (by rfl) D.e2) pa_nil)))) pss_nil)
    (pss_cons (ps_set (i := 3) nd rfl (.inl rfl) (pe_fld (pv 0) rfl))
    (pss_cons (ps_fld (pv 0) (pv 2) rfl)
    (pss_one (ps_ret (pe_lst (pa_cons (pv 3) pa_nil))))))), ?_⟩
  have F : Fin CC CI H a N Q (oSetPos I x) := F
  unfold oSetPos at F
  refine ⟨_, rfl, p, _, _, _, rfl, rfl, .inl (.inl hp), atI_nat (j := 0) rfl, ?_⟩
  refine ⟨_, rfl, _, rfl, a, I, N, x, rfl, ⟨dx, l, g, as, J⟩, _, rfl, ?_⟩
  by_cases c : x < I.pc
  · rw [if_neg (by omega)] at F
    rw [decide_eq_true c]
    refine iteF ⟨_, rfl, a, CI, dx, _, _, rfl, J.ho, D.T.clI, D.nPl, inF_pl I l g, ?_⟩
    refine ⟨_, rfl, _, rfl, a, CI, dx, _, rfl, J.ho, D.T.clI, D.nPl, (by show 5 < 1000; decide), ?_⟩
    rw [inF_setPl]
    have J1 := J.write (I' := { I with pl := x }) rfl J.hg J.lg J.ng
    have k1 := J.keepA (o := .ins CI dx (inF { I with pl := x } l g))
    refine ⟨_, rfl, by show 1 ≤ sizeLine; decide, fun u nu => ?_⟩
    have su := same_upd (o := .lst [V.int (I.pl : Nat)]) nu
    exact F _ u (k1.trans (Same.keep su N)) ⟨dx, l, g, as, J1.same su⟩ ((tr.keep k1).new nu) upd_same
  · rw [if_pos (by omega)] at F
    rw [decide_eq_false c]
    exact iteT ⟨2, rfl, fun H' q s n e => F.read ⟨dx, l, g, as, J⟩ tr s n e⟩
/-! ### 5: set_age -/
theorem sc62 : FnScope ["instance", "parameters", "number", "age", "old_age"] nIP (defScope (topS 62)) := ⟨rfl, rfl, rfl, by decide +kernel, rfl, by decide +kernel, by decide +kernel⟩
theorem ok62 {k : Nat} (D : All K mg fa fd CC CI CR) : FnOk P w K mg base CX0 (k + 2) (fa 62) (fd 62) nIP (spOp CC CI 5) := by
  have G51 : FnOk P w K mg base CX0 (k + 1) (fa 51) (fd 51) ["code"] spRefused := ok51 D
  have G53 : FnOk P w K mg base CX0 (k + 1) (fa 53) (fd 53) ["instance", "channel"] (spIsCh CC CI) := ok53 D
  refine D.d62.F.ok sc62 spOp_len (fun cdv A outer s H vs Q E hr h => ?_)
  obtain ⟨a, p, I, ps, N, rfl, ⟨dx, l, g, as, J⟩, hp, ⟨O, hl, tr⟩, F⟩ := h
  obtain ⟨i, x, rfl⟩ := len2 (show ps.length = 2 from hl)
  have nd := sc62.nd
  refine ⟨_, pss_cons (ps_asg (pv 1) (pg_lst rfl (pgs_cons (pg_name (i := 2) nd rfl (.inl rfl)) (pgs_cons (pg_name (i := 3) nd rfl (.inl rfl)) pgs_nil))))
    (pss_cons (ps_if (pt_not (pt_val (pe_fn D.d53 G53 hr (by rfl) (pa_cons (pv 0) (pa_cons (pv 2) pa_nil))))) (pss_one (ps_ret (pe_fn D.d51 G51 hr (by rfl) (pa_cons (pe_c (by rfl) D.e2) pa_nil)))) pss_nil)
    (pss_cons (ps_if (pt_cmpR op_gt (pv 3) (pe_fld (pe_ix ix_list (pe_fld (pv 0) rfl) (pv 2) (fun _ _ => rfl)) rfl) (nomark _)) (pss_one (ps_ret (pe_fn D.d51 G51 hr (by rfl) (pa_cons (pe_c (by rfl) D.e22) pa_nil)))) pss_nil)
    (pss_cons (ps_set (i := 4) nd rfl (.inl rfl) (pe_ix ix_list (pe_fld (pv 0) rfl) (pv 2) (fun _ _ => rfl)))
    (pss_cons (ps_asg (pv 3) (pg_sub (pe_fld (pv 0) rfl) (pv 2) set_list))
    (pss_one (ps_ret (pe_lst (pa_cons (pv 4) pa_nil)))))))), ?_⟩
  have F : Fin CC CI H a N Q (oSetAge I i x) := F
  unfold oSetAge at F
  refine ⟨_, rfl, p, _, rfl, .inl (.inl hp), rfl, _, _, rfl, _, _, rfl, rfl, ?_⟩
  refine ⟨_, rfl, _, rfl, a, I, N, i, rfl, ⟨dx, l, g, as, J⟩, ⟨_, rfl, ?_⟩⟩
  by_cases c : i < I.cs.length
  · rw [if_neg (by omega)] at F
    rw [decide_eq_true c]
    obtain ⟨as', hl', lenA, each⟩ := J.chs.len
    obtain ⟨b, hb, db, hch⟩ := each i (chAt I i) (chAt_get c)
    refine iteF ⟨_, rfl, _, rfl, a, CI, dx, _, _, rfl, J.ho, D.T.clI, D.nCs, inF_cs I l g, _, rfl, l, _, _, _, rfl, rfl, .inl (.inl hl'), atI_nat (j := i) (by rw [List.getElem?_map, hb]; rfl), ?_⟩
    refine ⟨b, CC, db, _, _, rfl, hch, D.T.cl, D.T.nM, chF_m _, _, _, rfl, rfl, _, rfl, ?_⟩
    rw [lt_cast]
    by_cases c2 : (chAt I i).m < x
    · rw [if_pos c2] at F
      rw [decide_eq_true c2]
      exact iteT ⟨22, rfl, fun H' q s n e => F.read ⟨dx, l, g, as, J⟩ tr s n e⟩
    · rw [if_neg c2] at F
      rw [decide_eq_false c2]
      have hag : I.ag[i]? = some (I.ag.getD i 0) := by
        rw [List.getD_eq_getElem?_getD, List.getElem?_eq_getElem (by rw [O.len]; exact c)]
        rfl
      have few := O.few
      refine iteF ⟨_, rfl, a, CI, dx, _, _, rfl, J.ho, D.T.clI, D.nAg, inF_ag I l g, _, rfl, g, _, _, _, rfl, rfl, .inl (.inl J.hg), atI_nat (j := i) (nints_get hag), ?_⟩
      refine ⟨_, rfl, _, rfl, a, CI, dx, _, _, rfl, J.ho, D.T.clI, D.nAg, inF_ag I l g, _, rfl, g, _, _, i, rfl, rfl, J.hg, ixN_of (by rw [nints_len, O.len]; exact c), ?_⟩
      rw [nints_set]
      have k1 : Keep N H (upd H g (.lst (nints (I.ag.set i x)))) := fun b o e n => by
        rw [upd_ne (fun z : b = g => J.ng (z ▸ n))]
        exact e
      have J1 : InsD CC CI (upd H g (.lst (nints (I.ag.set i x)))) a { I with ag := I.ag.set i x } N dx l g as := by
        refine ⟨?_, ?_, ?_, J.nd, upd_same, J.lg, J.na, J.nl, J.ng, J.ns⟩
        · rw [upd_ne (ne_of J.ho J.hg (fun z => nomatch z))]
          exact J.ho
        · rw [upd_ne J.lg]
          exact J.hl
        · exact Paired.mapP J.hc fun y c ⟨d, e⟩ => ⟨d, by rw [upd_ne (ne_of e J.hg (fun z => nomatch z))]; exact e⟩
      refine ⟨_, rfl, by show 1 ≤ sizeLine; decide, fun u nu => ?_⟩
      have su := same_upd (o := .lst [V.int ((I.ag.getD i 0 : Nat) : Int)]) nu
      exact F _ u (k1.trans (Same.keep su N)) ⟨dx, l, g, as, J1.same su⟩ ((tr.keep k1).new nu) upd_same
  · rw [if_pos (by omega)] at F
    rw [decide_eq_false c]
    exact iteT ⟨2, rfl, fun H' q s n e => F.read ⟨dx, l, g, as, J⟩ tr s n e⟩
/-! ### 6: reset -/
theorem sc63 : FnScope ["instance", "parameters", "old_hours_elapsed"] nIP (defScope (topS 63)) := ⟨rfl, rfl, rfl, by decide +kernel, rfl, by decide +kernel, by decide +kernel⟩
theorem ok63 {k : Nat} (D : All K mg fa fd CC CI CR) : FnOk P w K mg base CX0 (k + 2) (fa 63) (fd 63) nIP (spOp CC CI 6) := by
  have G26 : FnOk P w K mg base CX0 (k + 1) (fa 26) (fd 26) ["instance"] (spFresh CC CI) := ok26 D
  refine D.d63.F.ok sc63 spOp_len (fun cdv A outer s H vs Q E hr h => ?_)
  obtain ⟨a, p, I, ps, N, rfl, ⟨dx, l, g, as, J⟩, hp, ⟨O, hl, tr⟩, F⟩ := h
  obtain rfl := List.eq_nil_of_length_eq_zero (show ps.length = 0 from hl)
  have nd := sc63.nd
  refine ⟨_, pss_cons (ps_set (i := 2) nd rfl (.inl rfl) (pe_fld (pv 0) rfl))
    (pss_cons (ps_fld (pv 0) (pe_fn D.d26 G26 hr (by rfl) (pa_cons (pv 0) pa_nil)) rfl)
    (pss_cons (ps_fld (pv 0) pe_int rfl)
    (pss_one (ps_ret (pe_lst (pa_cons (pv 2) pa_nil)))))), ?_⟩
  have F : Fin CC CI H a N Q (oReset I) := F
  unfold oReset at F
  refine ⟨_, rfl, a, CI, dx, _, _, rfl, J.ho, D.T.clI, D.nHe, inF_he I l g, ?_⟩
  refine ⟨_, rfl, a, I, N, rfl, ⟨dx, l, g, as, J⟩, O.few, fun H1 u s1 nu hu => ?_⟩
  have J1 := J.same s1
  refine ⟨_, rfl, a, CI, dx, _, rfl, J1.ho, D.T.clI, D.nAg, (by show 5 < 1000; decide), ?_⟩
  rw [inF_setAg]
  refine ⟨_, rfl, a, CI, dx, _, rfl, upd_same, D.T.clI, D.nHe, (by show 5 < 1000; decide), ?_⟩
  rw [upd_upd, show putF "hours_elapsed" (V.int 0) (inF I l u) = inF { I with ag := List.replicate I.cs.length 0, he := 0 } l u from inF_setHe I l u 0]
  have lu : l ≠ u := ne_of_none J.hl nu
  have J2 := J1.write (I' := { I with ag := List.replicate I.cs.length 0, he := 0 }) rfl hu lu (tr.new nu)
  have k2 := (Same.keep s1 N).trans (J1.keepA (o := .ins CI dx (inF { I with ag := List.replicate I.cs.length 0, he := 0 } l u)))
  refine ⟨_, rfl, by show 1 ≤ sizeLine; decide, fun v nv => ?_⟩
  have sv := same_upd (o := .lst [V.int (I.he : Nat)]) nv
  exact F _ v (k2.trans (Same.keep sv N)) ⟨dx, l, u, as, J2.same sv⟩ ((tr.keep k2).new nv) upd_same
/-! ### 7, 8: travel, wait -/
theorem sc64 : FnScope ["instance", "parameters", "number"] nIP (defScope (topS 64)) := ⟨rfl, rfl, rfl, by decide +kernel, rfl, by decide +kernel, by decide +kernel⟩
theorem ok64 {k : Nat} (D : All K mg fa fd CC CI CR) : FnOk P w K mg base CX0 (k + 4) (fa 64) (fd 64) nIP (spOp CC CI 7) := by
  have G51 : FnOk P w K mg base CX0 (k + 3) (fa 51) (fd 51) ["code"] spRefused := ok51 D
  have G53 : FnOk P w K mg base CX0 (k + 3) (fa 53) (fd 53) ["instance", "channel"] (spIsCh CC CI) := ok53 D
  have G3 : FnOk P w K mg base CX0 (k + 3) (fa 3) (fd 3) ["channel", "place"] (spAtEnd CC) := ok_atEnd D.M.ae.F D.T
  have G66 : FnOk P w K mg base CX0 (k + 3) (fa 66) (fd 66) ["instance", "move"] (spMove CC CI) := ok66 D
  refine D.d64.F.ok sc64 spOp_len (fun cdv A outer s H vs Q E hr h => ?_)
  obtain ⟨a, p, I, ps, N, rfl, ⟨dx, l, g, as, J⟩, hp, ⟨O, hl, tr⟩, F⟩ := h
  obtain ⟨i, rfl⟩ := len1 (show ps.length = 1 from hl)
  have nd := sc64.nd
  refine ⟨_, pss_cons (ps_set (i := 2) nd rfl (.inl rfl) (pe_ix ix_list (pv 1) pe_int (fun _ _ => rfl)))
    (pss_cons (ps_if (pt_not (pt_val (pe_fn D.d53 G53 hr (by rfl) (pa_cons (pv 0) (pa_cons (pv 2) pa_nil))))) (pss_one (ps_ret (pe_fn D.d51 G51 hr (by rfl) (pa_cons (pe_c (by rfl) D.e2) pa_nil)))) pss_nil)
    (pss_cons (ps_if (pt_not (pt_val (pe_fn D.M.ae G3 hr (by rfl) (pa_cons (pe_ix ix_list (pe_fld (pv 0) rfl) (pv 2) (fun _ _ => rfl)) (pa_cons (pe_fld (pv 0) rfl) pa_nil))))) (pss_one (ps_ret (pe_fn D.d51 G51 hr (by rfl) (pa_cons (pe_c (by rfl) D.e12) pa_nil)))) pss_nil)
    (pss_one (ps_ret (pe_fn D.d66 G66 hr (by rfl) (pa_cons (pv 0) (pa_cons (pe_op op_add (pv 2) pe_int) pa_nil))))))), ?_⟩
  have F : Fin CC CI H a N Q (oTravel I i) := F
  unfold oTravel at F
  refine ⟨_, rfl, p, _, _, _, rfl, rfl, .inl (.inl hp), atI_nat (j := 0) rfl, ?_⟩
  refine ⟨_, rfl, _, rfl, a, I, N, i, rfl, ⟨dx, l, g, as, J⟩, _, rfl, ?_⟩
  by_cases c : i < I.cs.length
  · rw [if_neg (by omega)] at F
    rw [decide_eq_true c]
    obtain ⟨as', hl', lenA, each⟩ := J.chs.len
    obtain ⟨b, hb, hch⟩ := each i (chAt I i) (chAt_get c)
    refine iteF ⟨_, rfl, a, CI, dx, _, _, rfl, J.ho, D.T.clI, D.nCs, inF_cs I l g, _, rfl, l, _, _, _, rfl, rfl, .inl (.inl hl'), atI_nat (j := i) (by rw [List.getElem?_map, hb]; rfl), ?_⟩
    refine ⟨_, rfl, a, CI, dx, _, _, rfl, J.ho, D.T.clI, D.nPl, inF_pl I l g, b, chAt I i, I.pl, rfl, hch, _, rfl, ?_⟩
    by_cases c2 : atEnd (chAt I i) I.pl = true
    · rw [if_pos c2] at F
      rw [c2]
      have ei : (i : Int) + 1 = ((i + 1 : Nat) : Int) := by omega
      refine iteF ⟨_, rfl, _, rfl, _, _, rfl, rfl, a, I, N, i + 1, by show [V.ref a, V.int ((i : Int) + 1)] = _; rw [ei], ⟨dx, l, g, as, J⟩, ⟨O, by omega, tr⟩, F⟩
    · rw [if_neg c2] at F
      rw [Bool.eq_false_iff.mpr c2]
      exact iteT ⟨12, rfl, fun H' q s n e => F.read ⟨dx, l, g, as, J⟩ tr s n e⟩
  · rw [if_pos (by omega)] at F
    rw [decide_eq_false c]
    exact iteT ⟨2, rfl, fun H' q s n e => F.read ⟨dx, l, g, as, J⟩ tr s n e⟩
theorem sc65 : FnScope nIP nIP (defScope (topS 65)) := ⟨rfl, rfl, rfl, by decide +kernel, rfl, by decide +kernel, by decide +kernel⟩
theorem ok65 {k : Nat} (D : All K mg fa fd CC CI CR) : FnOk P w K mg base CX0 (k + 4) (fa 65) (fd 65) nIP (spOp CC CI 8) := by
  have G66 : FnOk P w K mg base CX0 (k + 3) (fa 66) (fd 66) ["instance", "move"] (spMove CC CI) := ok66 D
  refine D.d65.F.ok sc65 spOp_len (fun cdv A outer s H vs Q E hr h => ?_)
  obtain ⟨a, p, I, ps, N, rfl, J, hp, ⟨O, hl, tr⟩, F⟩ := h
  obtain rfl := List.eq_nil_of_length_eq_zero (show ps.length = 0 from hl)
  refine ⟨_, pss_one (ps_ret (pe_fn D.d66 G66 hr (by rfl) (pa_cons (pv 0) (pa_cons (pe_c (by rfl) D.T.wait) pa_nil)))), ?_⟩
  exact ⟨_, rfl, a, I, N, 0, rfl, J, ⟨O, Nat.zero_le _, tr⟩, F⟩
/-! ### 15: follow_safe_plan -/
theorem sc74 : FnScope ["instance", "parameters", "hours", "plan", "answered", "move"] nIP (defScope (topS 74)) := ⟨rfl, rfl, rfl, by decide +kernel, rfl, by decide +kernel, by decide +kernel⟩
theorem ok74 {k : Nat} (D : All K mg fa fd CC CI CR) : FnOk P w K mg base CX0 (k + 8) (fa 74) (fd 74) nIP (spOp CC CI 15) := by
  have G51 : FnOk P w K mg base CX0 (k + 7) (fa 51) (fd 51) ["code"] spRefused := ok51 D
  have G25 : FnOk P w K mg base CX0 (k + 7) (fa 25) (fd 25) ["instance"] (spCur CC CI) := ok25 D
  have G17 : FnOk P w K mg base CX0 (k + 7) (fa 17) (fd 17) ["place_count", "channels", "state", "hours"] (spPlan w CC plS) := ok17 D
  have G66 : FnOk P w K mg base CX0 (k + 7) (fa 66) (fd 66) ["instance", "move"] (spMove CC CI) := ok66 (k := k + 4) D
  refine D.d74.F.ok sc74 spOp_len (fun cdv A outer s H vs Q E hr h => ?_)
  obtain ⟨a, p, I, ps, N, rfl, ⟨dx, l, g, as, J⟩, hp, ⟨O, hl, tr⟩, F⟩ := h
  obtain ⟨h, rfl⟩ := len1 (show ps.length = 1 from hl)
  have nd := sc74.nd
  refine ⟨_, pss_cons (ps_set (i := 2) nd rfl (.inl rfl) (pe_ix ix_list (pv 1) pe_int (fun _ _ => rfl)))
    (pss_cons (ps_if (pt_not (pt_chain op_le op_le (pe_c (by rfl) D.cHl) (pv 2) (pe_c (by rfl) D.cHs))) (pss_one (ps_ret (pe_fn D.d51 G51 hr (by rfl) (pa_cons (pe_c (by rfl) D.e22) pa_nil)))) pss_nil)
    (pss_cons (ps_set (i := 3) nd rfl (.inl rfl) (pe_fn D.d17 G17 hr (by rfl) (pa_cons (pe_fld (pv 0) rfl) (pa_cons (pe_fld (pv 0) rfl) (pa_cons (pe_fn D.d25 G25 hr (by rfl) (pa_cons (pv 0) pa_nil)) (pa_cons (pv 2) pa_nil))))))
    (pss_cons (ps_if (pt_cmpR op_isN (pv 3) pe_non (nomark _)) (pss_one (ps_ret (pe_fn D.d51 G51 hr (by rfl) (pa_cons (pe_c (by rfl) D.e33) pa_nil)))) pss_nil)
    (pss_cons (ps_set (i := 4) nd rfl (.inl rfl) (pe_lst pa_nil))
    (pss_cons (ps_for PassesOwn.never rfl (pi_list (pv 3)) (pg_name (i := 5) nd rfl (.inl rfl))
      (pss_one (ps_set (i := 4) nd rfl (.inl rfl) (pe_fn D.d66 G66 hr (by rfl) (pa_cons (pv 0) (pa_cons (pv 5) pa_nil))))))
    (pss_one (ps_ret (pv 4)))))))), ?_⟩
  have F : Fin CC CI H a N Q (oFollow I h) := F
  unfold oFollow at F
  refine ⟨_, rfl, p, _, _, _, rfl, rfl, .inl (.inl hp), atI_nat (j := 0) rfl, ?_⟩
  have bad : h = 0 ∨ 30 < h → ∀ H' q, Same H H' → H q = none → H' q = some (.lst [.int (-22)]) → Q (.ref q) H' := fun c H' q s n e => by
    rw [if_pos c] at F
    exact F.read ⟨dx, l, g, as, J⟩ tr s n e
  refine ⟨_, rfl, _, _, rfl, rfl, _, rfl, ?_⟩
  rw [show decide ((1 : Int) ≤ (h : Int)) = decide (1 ≤ h) from le_cast 1 h]
  by_cases c1 : 1 ≤ h
  · rw [decide_eq_true c1]
    refine iteT ⟨_, _, rfl, rfl, _, rfl, ?_⟩
    rw [show decide ((h : Int) ≤ 30) = decide (h ≤ 30) from le_cast h 30]
    by_cases c2 : h ≤ 30
    · rw [decide_eq_true c2]
      rw [if_neg (by omega), planS_eq] at F
      refine iteF ⟨_, rfl, a, CI, dx, _, _, rfl, J.ho, D.T.clI, D.nPc, inF_pc I l g, _, rfl, a, CI, dx, _, _, rfl, J.ho, D.T.clI, D.nCs, inF_cs I l g, _, rfl, a, I, N, rfl, ⟨dx, l, g, as, J⟩, fun H1 t s1 nt ht => ?_⟩
      refine ⟨_, rfl, I.pc, l, t, I.cs, I.st, h, rfl, ⟨J.chs.same s1, ht⟩, ⟨O.few, O.pc, O.hm, O.len, c2⟩, fun H2 v s2 hv => ?_⟩
      have s02 := s1.trans s2
      cases e1 : plS I.pc I.cs I.st h with
      | none =>
        rw [e1] at hv F
        obtain rfl : v = .non := hv
        refine ⟨_, rfl, rfl, _, rfl, ?_⟩
        rw [decide_eq_true rfl]
        exact iteT ⟨33, rfl, fun H' q s n e => F.read ⟨dx, l, g, as, J⟩ tr (s02.trans s) (s02.free n) e⟩
      | some pl =>
        rw [e1] at hv F
        obtain ⟨q0, rfl, nq0, hq0⟩ := hv
        have nq : H q0 = none := s1.free nq0
        have lenP := plS_len e1
        refine ⟨_, rfl, rfl, _, rfl, ?_⟩
        rw [decide_eq_false (fun z => nomatch z)]
        refine iteF ⟨Nat.zero_le _, fun o no => ?_⟩
        have so := same_upd (o := .lst []) no
        have s03 := s02.trans so
        have hq3 := so _ _ hq0
        have ne2 : o ≠ q0 := fun z => by rw [z, hq0] at no; cases no
        generalize upd H2 o (.lst []) = H3 at so s03 hq3
        have J3 := ((J.more nq).same s03)
        have tr3 : Trk (fun b => N b ∨ b = q0) H3 := fun b n => by
          rcases n with n | rfl
          · obtain ⟨u, e⟩ := tr b n
            exact ⟨u, s03 _ _ e⟩
          · exact ⟨_, hq3⟩
        have hsafe : I.st ∈ safeSt I.pc I.cs := by
          by_cases c : I.st ∈ safeSt I.pc I.cs
          · exact c
          · unfold plS at e1
            rw [if_neg c] at e1
            cases e1
        have epl : pl = smallest I.cs I.st (List.replicate h (safeSt I.pc I.cs)) := by
          unfold plS at e1
          rw [if_pos hsafe] at e1
          exact (Option.some.inj e1).symm
        have fo := follow_ok (List.replicate h (safeSt I.pc I.cs)) I O (runs_safe _ _ h _ hsafe)
        rw [← epl] at fo
        have hL : SqL K H3 q0 (nints pl) := .inl (.inl hq3)
        refine ⟨_, rfl, q0, rfl, ⟨_, hL⟩, for_list (K := K) (xs := nints pl) (fun i σ H' => ∃ y4 y5, σ = [some (.ref a), some (.ref p), some (.int h), some (.ref q0), some (.ref y4), y5] ∧ Keep (fun b => N b ∨ b = q0) H3 H' ∧
            InsAt CC CI H' a (follow I (pl.take i)) (fun b => N b ∨ b = q0) ∧ (0 < i → H' y4 = some (.lst ((told (follow I (pl.take i))).map V.int)) ∧ ¬ N y4))
          ⟨o, none, rfl, fun b u e _ => e, ⟨dx, l, g, as, J3⟩, fun z => absurd z (Nat.lt_irrefl 0)⟩ (fun i σ H' _ ⟨_, _, _, kp, _⟩ => .inl (.inl (kp _ _ hq3 (.inr rfl)))) ?_ ?_⟩
        · rintro i x σ H4 hx ⟨y4, y5, rfl, kp, J4, _⟩
          obtain ⟨m, hm, rfl⟩ := map_get hx
          obtain ⟨Of, mle, op⟩ := fo i m hm
          have tr4 := tr3.keep kp
          refine ⟨_, rfl, _, rfl, a, _, _, m, rfl, J4, ⟨Of, mle, tr4⟩, fun H5 q k5 J5 nq5 hq5 => ?_⟩
          unfold oMove at J5 hq5
          rw [if_pos op] at J5 hq5
          have ef : moved (follow I (pl.take i)) m = follow I (pl.take (i + 1)) := by
            rw [take_snoc hm, follow_snoc]
          dsimp only at J5 hq5
          rw [ef] at J5 hq5
          exact ⟨q, _, rfl, kp.trans k5, J5, fun _ => ⟨hq5, fun z => nq5 (.inl z)⟩⟩
        · rintro σ H4 ⟨y4, y5, rfl, kp, ⟨dx4, l4, g4, as4, J4⟩, h4⟩
          rw [nints_len] at J4 h4
          obtain ⟨h4, n4⟩ := h4 (by omega)
          rw [List.take_length] at J4 h4
          exact ⟨_, rfl, F H4 y4 (fun b u e n => kp b u (s03 _ _ e) (.inl n)) ⟨dx4, l4, g4, as4, J4.less fun b z => .inl z⟩ n4 h4⟩
    · rw [decide_eq_false c2]
      exact iteT ⟨22, rfl, bad (.inr (by omega))⟩
  · rw [decide_eq_false c1]
    exact iteF ⟨_, rfl, iteT ⟨22, rfl, bad (.inl (by omega))⟩⟩
end
end OL
namespace OL
open PySem PySem.Spec PyProof.Rows L2
/-- the request's object; the instance, if there is one -/
def ReqAt (CC CI CR : Addr) (H : Hp) (rq : Addr) (s : Option Ins) (N : Addr → Prop) : Prop :=
  ∃ dx v, H rq = some (.ins CR dx [("instance", v)]) ∧ ¬ N rq ∧ (match s with
    | none => v = .non
    | some I => ∃ a, v = .ref a ∧ InsAt CC CI H a I (fun b => N b ∨ b = rq))
theorem InsAt.same' {CC CI : Addr} {H H' : Hp} {a : Addr} {I : Ins} {N : Addr → Prop} (e : Same H H') (h : InsAt CC CI H a I N) : InsAt CC CI H' a I N := h.same e
theorem ReqAt.same {CC CI CR : Addr} {H H' : Hp} {rq : Addr} {s : Option Ins} {N : Addr → Prop} (e : Same H H') (h : ReqAt CC CI CR H rq s N) : ReqAt CC CI CR H' rq s N := by
  obtain ⟨dx, v, h1, h2, h3⟩ := h
  refine ⟨dx, v, e _ _ h1, h2, ?_⟩
  cases s with
  | none => exact h3
  | some I =>
    obtain ⟨a, h4, h5⟩ := h3
    exact ⟨a, h4, InsAt.same e h5⟩
/-- an object of N is written -/
theorem InsAt.upN {CC CI : Addr} {H : Hp} {a x : Addr} {I : Ins} {M : Addr → Prop} {o : HO} (n : M x) (h : InsAt CC CI H a I M) : InsAt CC CI (upd H x o) a I M := by
  obtain ⟨dx, l, g, as, J⟩ := h
  have ne : ∀ {b : Addr}, ¬ M b → b ≠ x := fun h e => h (e ▸ n)
  refine ⟨dx, l, g, as, ?_, ?_, ?_, J.nd, ?_, J.lg, J.na, J.nl, J.ng, J.ns⟩
  · rw [upd_ne (ne J.na)]
    exact J.ho
  · rw [upd_ne (ne J.nl)]
    exact J.hl
  · have go : ∀ {as : List Addr} {cs : List Ch}, Paired (ChAt CC H) as cs → (∀ b ∈ as, ¬ M b) → Paired (ChAt CC (upd H x o)) as cs := by
      intro as cs h
      induction h with
      | nil => exact fun _ => .nil
      | @cons b c bs ds r t ih =>
        intro q
        obtain ⟨d, e⟩ := r
        exact .cons ⟨d, by rw [upd_ne (ne (q b List.mem_cons_self))]; exact e⟩ (ih fun y hy => q y (List.mem_cons_of_mem _ hy))
    exact go J.hc J.ns
  · rw [upd_ne (ne J.ng)]
    exact J.hg
theorem ReqAt.upN {CC CI CR : Addr} {H : Hp} {rq x : Addr} {s : Option Ins} {N : Addr → Prop} {o : HO} (n : N x) (h : ReqAt CC CI CR H rq s N) : ReqAt CC CI CR (upd H x o) rq s N := by
  obtain ⟨dx, v, h1, h2, h3⟩ := h
  refine ⟨dx, v, ?_, h2, ?_⟩
  · rw [upd_ne (fun e : rq = x => h2 (e ▸ n))]
    exact h1
  · cases s with
    | none => exact h3
    | some I =>
      obtain ⟨a, h4, h5⟩ := h3
      exact ⟨a, h4, h5.upN (.inl n)⟩
def FinR (CC CI CR : Addr) (H : Hp) (rq : Addr) (N : Addr → Prop) (Q : VK) (r : Option Ins × List Int) : Prop :=
  ∀ H' q, Keep N H H' → ReqAt CC CI CR H' rq r.1 N → ¬ N q → H' q = some (.lst (r.2.map V.int)) → Q (.ref q) H'
theorem FinR.read {CC CI CR : Addr} {H H' : Hp} {rq q : Addr} {N : Addr → Prop} {Q : VK} {s : Option Ins} {l : List Int} (F : FinR CC CI CR H rq N Q (s, l)) (J : ReqAt CC CI CR H rq s N) (t : Trk N H) (e : Same H H') (n : H q = none)
    (h : H' q = some (.lst (l.map V.int))) : Q (.ref q) H' := F H' q (Same.keep e N) (J.same e) (t.new n) h
theorem rqF_set {v z : V} : putF "instance" z [(("instance" : Str), v)] = [(("instance" : Str), z)] := putF_at
theorem rqF_get {v : V} : List.lookup ("instance" : Str) [(("instance" : Str), v)] = some v := lk_in
theorem int_keys (fa : Nat → Addr) (tk : Nat → Nat) : L2.IntKeys (opEs fa tk) := by
  intro e he
  obtain ⟨n, hn, rfl⟩ := List.mem_map.mp (show e ∈ ((List.range 22).map (· + 1)).map fun n => opE fa tk n (opAt.getD n 0) from he)
  obtain ⟨j, hj, rfl⟩ := List.mem_map.mp hn
  refine ⟨((j + 1 : Nat) : Int), tk (j + 1), rfl, ?_⟩
  have all : ∀ j, j < 22 → ((j + 1 : Nat) : Int) = hashInt ((j + 1 : Nat) : Int) := by decide
  exact all j (List.mem_range.mp hj)
theorem find_map {α β : Type} (f : α → β) (p : β → Bool) : ∀ l : List α, (l.map f).find? p = (l.find? fun x => p (f x)).map f
  | [] => rfl
  | x :: l => by
    rw [List.map_cons, List.find?_cons, List.find?_cons, find_map f p l]
    cases p (f x) <;> rfl
theorem find_op (fa : Nat → Addr) (tk : Nat → Nat) {n : Nat} (h1 : 1 ≤ n) (h2 : n < 23) : findBy Value.isInt (opEs fa tk) (n : Int) = some (.ref (fa (opAt.getD n 0))) := by
  unfold findBy opEs
  rw [List.find?_toArray, find_map]
  have e : ((List.range 22).map (· + 1)).find? (fun x => Value.isInt (n : Int) (opE fa tk x (opAt.getD x 0)).key) = some n := by
    have q : (fun x : Nat => Value.isInt (n : Int) (opE fa tk x (opAt.getD x 0)).key) = fun x : Nat => decide (x = n) := by
      funext x
      show ((x : Int) == (n : Int)) = decide (x = n)
      rw [Bool.eq_iff_iff, beq_iff_eq, decide_eq_true_eq, Int.natCast_inj]
    rw [q]
    have all : ∀ n, n < 23 → 1 ≤ n → ((List.range 22).map (· + 1)).find? (fun x : Nat => decide (x = n)) = some n := by decide
    exact all n h2 h1
  rw [e]
  rfl
section
variable {P : Program} {w : World} {K : PySem.W.Frag} {mg : Str → Option Value} {base : Heap} {fa : Nat → Addr} {fd : Nat → FuncData} {CC CI CR : Addr}
/-! ### 0: create -/
def spCreate (CC CI CR : Addr) : Sp := fun vs H Q _ => ∃ (rq p : Addr) (s : Option Ins) (n : Nat) (N : Addr → Prop), vs = [.ref rq, .ref p] ∧ ReqAt CC CI CR H rq s N ∧ H p = some (.lst (nints [n])) ∧ Trk N H ∧ FinR CC CI CR H rq N Q (performed s 0 [n])
theorem sc57 : FnScope ["request", "parameters", "place_count"] ["request", "parameters"] (defScope (topS 57)) := ⟨rfl, rfl, rfl, by decide +kernel, rfl, by decide +kernel, by decide +kernel⟩
theorem ok57 {k : Nat} (D : All K mg fa fd CC CI CR) : FnOk P w K mg base CX0 (k + 3) (fa 57) (fd 57) ["request", "parameters"] (spCreate CC CI CR) := by
  have G51 : FnOk P w K mg base CX0 (k + 2) (fa 51) (fd 51) ["code"] spRefused := ok51 D
  have GI : FnOk P w K mg base CX0 (k + 1) (fa 101) (fd 101) ["self", "place_count"] (spInitI CI) := ok_initI D
  refine D.d57.F.ok sc57 (fun vs H Q E h => ?_) (fun cdv A outer s H vs Q E hr h => ?_)
  · obtain ⟨rq, p, s, n, N, rfl, _⟩ := h
    rfl
  · obtain ⟨rq, p, s0, n, N, rfl, R, hp, tr, F⟩ := h
    have nd := sc57.nd
    refine ⟨_, pss_cons (ps_set (i := 2) nd rfl (.inl rfl) (pe_ix ix_list (pv 1) pe_int (fun _ _ => rfl)))
      (pss_cons (ps_if (pt_not (pt_chain op_le op_le (pe_c (by rfl) D.cLp) (pv 2) (pe_c (by rfl) D.cMp))) (pss_one (ps_ret (pe_fn D.d51 G51 hr (by rfl) (pa_cons (pe_c (by rfl) D.e22) pa_nil)))) pss_nil)
      (pss_cons (ps_fld (pv 0) (pe_make D.mI GI hr (by rfl) D.gI D.bI .nil pass0 (pa_cons (pv 2) pa_nil)) rfl)
      (pss_one (ps_ret (pe_lst (pa_cons pe_int pa_nil)))))), ?_⟩
    have F : FinR CC CI CR H rq N Q (if n < 2 ∨ 4 < n then (s0, [-22]) else (some ⟨n, [], [], 0, 0⟩, [0])) := F
    refine ⟨_, rfl, p, _, _, _, rfl, rfl, .inl (.inl hp), atI_nat (j := 0) rfl, ?_⟩
    have bad : n < 2 ∨ 4 < n → ∀ H' q, Same H H' → H q = none → H' q = some (.lst [.int (-22)]) → Q (.ref q) H' := fun c H' q s n e => by
      rw [if_pos c] at F
      exact F.read R tr s n e
    refine ⟨_, rfl, _, _, rfl, rfl, _, rfl, ?_⟩
    rw [show decide ((2 : Int) ≤ (n : Int)) = decide (2 ≤ n) from le_cast 2 n]
    by_cases c1 : 2 ≤ n
    · rw [decide_eq_true c1]
      refine iteT ⟨_, _, rfl, rfl, _, rfl, ?_⟩
      rw [show decide ((n : Int) ≤ 4) = decide (n ≤ 4) from le_cast n 4]
      by_cases c2 : n ≤ 4
      · rw [decide_eq_true c2]
        rw [if_neg (by omega)] at F
        refine iteF ⟨_, rfl, ?_⟩
        intro x dy nx ndy dyx
        refine ⟨x, dy, n, rfl, upd_same, fun H1 l1 g1 kp nl1 ng1 lg1 hx1 hl1 hg1 => ⟨rfl, ?_⟩⟩
        have back : ∀ {b : Addr}, upd (upd H dy (.own x)) x (.ins CI dy []) b = none → H b = none := fun {b} e => by
          by_cases e1 : b = x
          · rw [e1]
            exact nx
          · rw [upd_ne e1] at e
            by_cases e2 : b = dy
            · rw [e2]
              exact ndy
            · rw [upd_ne e2] at e
              exact e
        have s1 : Same H H1 := fun b o e => kp b o (by rw [upd_ne (ne_of_none e nx), upd_ne (ne_of_none e ndy)]; exact e) (ne_of_none e nx)
        obtain ⟨dr, v, hr1, nrq, _⟩ := R
        refine ⟨_, rfl, rq, CR, dr, _, rfl, s1 _ _ hr1, D.T.clR, D.nIn, (by show 1 < 1000; decide), ?_⟩
        rw [rqF_set]
        have noN : ∀ {b : Addr}, H b = none → ¬ (N b ∨ b = rq) := fun e z => z.elim (tr.new e) (fun z => by rw [z, hr1] at e; cases e)
        have hJ : InsAt CC CI (upd H1 rq (.ins CR dr [("instance", V.ref x)])) x ⟨n, [], [], 0, 0⟩ (fun b => N b ∨ b = rq) :=
          InsAt.upN (.inr rfl) ⟨dy, l1, g1, [], hx1, hl1, .nil, List.nodup_nil, hg1, lg1, noN nx, noN (back nl1), noN (back ng1), fun b hb => nomatch hb⟩
        have k1 : Keep N H (upd H1 rq (.ins CR dr [("instance", V.ref x)])) := fun b o e nb => by
          rw [upd_ne (fun z : b = rq => nrq (z ▸ nb))]
          exact s1 _ _ e
        refine ⟨by show 1 ≤ sizeLine; decide, fun u nu => ?_⟩
        have su := same_upd (o := .lst [V.int 0]) nu
        exact F _ u (k1.trans (Same.keep su N)) (ReqAt.same su ⟨dr, _, upd_same, nrq, x, rfl, hJ⟩) ((tr.keep k1).new nu) upd_same
      · rw [decide_eq_false c2]
        exact iteT ⟨22, rfl, bad (.inr (by omega))⟩
    · rw [decide_eq_false c1]
      exact iteF ⟨_, rfl, iteT ⟨22, rfl, bad (.inl (by omega))⟩⟩
/-! ### perform -/
theorem held (D : All K mg fa fd CC CI CR) : ∀ n, 1 ≤ n → n < 23 → Held P w K mg base 10 (fa (opAt.getD n 0)) (spOp CC CI n)
  | 0, h, _ => absurd h (by omega)
  | 1, _, _ => ⟨_, _, ok58 (k := 7) D, D.d58.F.kp, D.d58.b⟩
  | 2, _, _ => ⟨_, _, ok59 (k := 8) D, D.d59.F.kp, D.d59.b⟩
  | 3, _, _ => ⟨_, _, ok60 (k := 8) D, D.d60.F.kp, D.d60.b⟩
  | 4, _, _ => ⟨_, _, ok61 (k := 8) D, D.d61.F.kp, D.d61.b⟩
  | 5, _, _ => ⟨_, _, ok62 (k := 8) D, D.d62.F.kp, D.d62.b⟩
  | 6, _, _ => ⟨_, _, ok63 (k := 8) D, D.d63.F.kp, D.d63.b⟩
  | 7, _, _ => ⟨_, _, ok64 (k := 6) D, D.d64.F.kp, D.d64.b⟩
  | 8, _, _ => ⟨_, _, ok65 (k := 6) D, D.d65.F.kp, D.d65.b⟩
  | 9, _, _ => ⟨_, _, ok67 (k := 7) D, D.d67.F.kp, D.d67.b⟩
  | 10, _, _ => ⟨_, _, ok68 (k := 6) D, D.d68.F.kp, D.d68.b⟩
  | 11, _, _ => ⟨_, _, ok69 (k := 2) D, D.d69.F.kp, D.d69.b⟩
  | 12, _, _ => ⟨_, _, ok70 (k := 2) D, D.d70.F.kp, D.d70.b⟩
  | 13, _, _ => ⟨_, _, ok71 (k := 2) D, D.d71.F.kp, D.d71.b⟩
  | 14, _, _ => ⟨_, _, ok72 (k := 2) D, D.d72.F.kp, D.d72.b⟩
  | 15, _, _ => ⟨_, _, ok74 (k := 2) D, D.d74.F.kp, D.d74.b⟩
  | 16, _, _ => ⟨_, _, ok75 (k := 2) D, D.d75.F.kp, D.d75.b⟩
  | 17, _, _ => ⟨_, _, ok76 (k := 0) D, D.d76.F.kp, D.d76.b⟩
  | 18, _, _ => ⟨_, _, ok77 (k := 1) D, D.d77.F.kp, D.d77.b⟩
  | 19, _, _ => ⟨_, _, ok78 (k := 1) D, D.d78.F.kp, D.d78.b⟩
  | 20, _, _ => ⟨_, _, ok79 (k := 9) D, D.d79.F.kp, D.d79.b⟩
  | 21, _, _ => ⟨_, _, ok80 (k := 9) D, D.d80.F.kp, D.d80.b⟩
  | 22, _, _ => ⟨_, _, ok81 (k := 9) D, D.d81.F.kp, D.d81.b⟩
  | n + 23, _, h => absurd h (by omega)
def spPerform (CC CI CR : Addr) : Sp := fun vs H Q _ => ∃ (rq p : Addr) (s : Option Ins) (n : Nat) (ps : List Nat) (N : Addr → Prop), vs = [.ref rq, .int (n : Int), .ref p] ∧ ReqAt CC CI CR H rq s N ∧ H p = some (.lst (nints ps)) ∧
  (OkW s ∧ Fair (n, ps) ∧ Trk N H) ∧ FinR CC CI CR H rq N Q (performed s n ps)
theorem sc83 : FnScope ["request", "number", "parameters"] ["request", "number", "parameters"] (defScope (topS 83)) := ⟨rfl, rfl, rfl, by decide +kernel, rfl, by decide +kernel, by decide +kernel⟩
theorem ok83 (D : All K mg fa fd CC CI CR) : FnOk P w K mg base CX0 11 (fa 83) (fd 83) ["request", "number", "parameters"] (spPerform CC CI CR) := by
  have G51 : FnOk P w K mg base CX0 10 (fa 51) (fd 51) ["code"] spRefused := ok51 (k := 9) D
  have G57 : FnOk P w K mg base CX0 10 (fa 57) (fd 57) ["request", "parameters"] (spCreate CC CI CR) := ok57 (k := 7) D
  obtain ⟨d, tk, nn, gd, ld⟩ := D.dict
  refine D.d83.F.ok sc83 (fun vs H Q E h => ?_) (fun cdv A outer s H vs Q E hr h => ?_)
  · obtain ⟨rq, p, s, n, ps, N, rfl, _⟩ := h
    rfl
  · obtain ⟨rq, p, s0, n, ps, N, rfl, R, hp, ⟨OW, ⟨hn, hl⟩, tr⟩, F⟩ := h
    have hn : n < 23 := hn
    have hl : ps.length = counts.getD n 0 := hl
    refine ⟨_, pss_cons (ps_if (pt_cmpR op_eq (pv 1) (pe_c (by rfl) D.cCr) (nomark _)) (pss_one (ps_ret (pe_fn D.d57 G57 hr (by rfl) (pa_cons (pv 0) (pa_cons (pv 2) pa_nil))))) pss_nil)
      (pss_cons (ps_if (pt_cmpR op_isN (pe_fld (pv 0) rfl) pe_non (nomark _)) (pss_one (ps_ret (pe_fn D.d51 G51 hr (by rfl) (pa_cons (pe_c (by rfl) D.e11) pa_nil)))) pss_nil)
      (pss_one (ps_ret (pe_callE (k := 10) (pe_ix ix_idict (pe_glob (v := .ref d) (by rfl) gd rfl) (pv 1) (fun _ _ => rfl)) hr (pa_cons (pe_fld (pv 0) rfl) (pa_cons (pv 2) pa_nil)))))), ?_⟩
    refine ⟨_, rfl, rfl, _, rfl, ?_⟩
    rw [show decide (V.int (n : Int) = V.int 0) = decide (n = 0) from nat_eq (j := 0)]
    by_cases c0 : n = 0
    · subst c0
      rw [decide_eq_true rfl]
      obtain ⟨x, rfl⟩ := len1 (show ps.length = 1 from hl)
      exact iteT ⟨_, rfl, _, rfl, rq, p, s0, x, N, rfl, R, hp, tr, F⟩
    · rw [decide_eq_false c0]
      unfold performed at F
      rw [if_neg c0] at F
      obtain ⟨dr, v, hr1, nrq, hv⟩ := id R
      refine iteF ⟨_, rfl, rq, CR, dr, _, _, rfl, hr1, D.T.clR, D.nIn, rqF_get, rfl, _, rfl, ?_⟩
      cases s0 with
      | none =>
        obtain rfl : v = .non := hv
        rw [decide_eq_true rfl]
        exact iteT ⟨11, rfl, fun H' q s n e => F.read R tr s n e⟩
      | some I =>
        obtain ⟨a, rfl, J⟩ := hv
        rw [decide_eq_false (fun z => nomatch z)]
        refine iteF ⟨_, rfl, d, n, _, _, nn, rfl, rfl, ld, int_keys fa tk, find_op fa tk (by omega) hn, ?_⟩
        refine ⟨_, spOp CC CI n, rfl, held D n (by omega) hn, ?_⟩
        refine ⟨_, rfl, rq, CR, dr, _, _, rfl, hr1, D.T.clR, D.nIn, rqF_get, _, rfl, ?_⟩
        have tr2 : Trk (fun b => N b ∨ b = rq) H := fun b z => by
          rcases z with z | rfl
          · exact tr b z
          · exact ⟨_, hr1⟩
        refine ⟨a, p, I, ps, _, rfl, J, hp, ⟨OW, hl, tr2⟩, fun H' q kp J' nq hq => ?_⟩
        exact F H' q (fun b o e z => kp b o e (.inl z)) ⟨dr, _, kp _ _ hr1 (.inr rfl), nrq, a, rfl, J'⟩ (fun z => nq (.inl z)) hq
end
end OL
namespace OL
open PySem PySem.Spec PyProof.Rows L2
/-! ### what is answered is short -/
theorem lres_len (l : List Nat) : (lres l).length = l.length + 1 := by
  show (zs l).length + 1 = _
  rw [zs_len]
theorem told_len {I : Ins} (K : Ok I) : (told I).length ≤ 4 := by
  show (zs I.ag).length + 1 ≤ 4
  rw [zs_len, K.len]
  have := K.few
  omega
theorem op_short {I : Ins} (K : Ok I) (n : Nat) (ps : List Nat) : (opOf n I ps).2.length ≤ 31 := by
  have few := K.few
  have pc4 := K.pc
  have move : ∀ m, m ≤ I.cs.length → (oMove I m).2.length ≤ 31 := fun m hm => by
    unfold oMove
    split
    · rename_i h
      have := told_len (ok_moved K hm h)
      show (told (moved I m)).length ≤ 31
      omega
    · show (1 : Nat) ≤ 31
      decide
  have one1 : (1 : Nat) ≤ 31 := by decide
  unfold opOf
  split
  case h_1 a b m =>
    unfold oAdd
    repeat' split
    all_goals exact one1
  case h_2 i =>
    unfold oRemove
    split <;> exact one1
  case h_3 i m =>
    unfold oSetMax
    repeat' split
    all_goals exact one1
  case h_4 p =>
    unfold oSetPos
    split <;> exact one1
  case h_5 i a =>
    unfold oSetAge
    repeat' split
    all_goals exact one1
  case h_6 => exact one1
  case h_7 i =>
    unfold oTravel
    split
    · exact one1
    split
    · exact move _ (by omega)
    · exact one1
  case h_8 => exact move 0 (Nat.zero_le _)
  case h_9 =>
    show (lres _).length ≤ 31
    rw [lres_len]
    have := avail_len I.cs I.pl
    omega
  case h_10 =>
    show (lres _).length ≤ 31
    rw [lres_len]
    have := legal_len I.cs I.st
    omega
  case h_11 =>
    show (lres (into _ _ _)).length ≤ 31
    rw [lres_len]
    have := into_len I.cs I.st (safeSt I.pc I.cs)
    omega
  case h_12 => exact one1
  case h_13 h =>
    show (if 9 < h then [-22] else planR (plan1 I h)).length ≤ 31
    split
    · exact one1
    unfold plan1
    split
    · show (lres _).length ≤ 31
      rw [lres_len, smallest_len, lvs_len]
      omega
    · exact one1
  case h_14 h =>
    show (if 30 < h then [-22] else planR (planS I h)).length ≤ 31
    split
    · exact one1
    unfold planS
    split
    · show (lres _).length ≤ 31
      rw [lres_len, smallest_len, List.length_replicate]
      omega
    · exact one1
  case h_15 h =>
    have ok := ok_op K 15 [h]
    show (oFollow I h).2.length ≤ 31
    have ok : Ok (oFollow I h).1 := ok
    unfold oFollow at ok ⊢
    split
    · exact one1
    rename_i c
    rw [if_neg c] at ok
    cases e : planS I h with
    | none => exact one1
    | some l =>
      rw [e] at ok
      have := told_len (show Ok (follow I l) from ok)
      show (told (follow I l)).length ≤ 31
      omega
  case h_16 =>
    show (lres (starts I)).length ≤ 31
    rw [lres_len]
    have := List.length_filter_le (fun p => decide ((p, List.replicate I.cs.length 0) ∈ safeSt I.pc I.cs)) (List.range I.pc)
    rw [List.length_range] at this
    unfold starts
    omega
  case h_17 =>
    show (if sf I = true then lres ((List.range I.cs.length).filter (tightB I)) else [-33]).length ≤ 31
    split
    · rw [lres_len]
      have := List.length_filter_le (tightB I) (List.range I.cs.length)
      rw [List.length_range] at this
      omega
    · exact one1
  case h_18 i m =>
    show (if I.cs.length ≤ i then [-2] else if m = 0 ∨ 3 < m then [-22] else b01 (sf (setM I i m))).length ≤ 31
    repeat' split
    all_goals exact one1
  case h_19 =>
    show (if sf (common I 1) = true then [1] else if sf (common I 2) = true then [2] else if sf (common I 3) = true then [3] else [-33] : List Int).length ≤ 31
    repeat' split
    all_goals exact one1
  case h_20 =>
    show (2 : Nat) ≤ 31
    decide
  case h_21 =>
    show (listed I.cs I.ag).length + 1 ≤ 31
    rw [listed_len _ _ K.len.symm]
    omega
  case h_22 =>
    show (4 : Nat) ≤ 31
    decide
  all_goals exact Nat.zero_le _
theorem performed_short {s : Option Ins} (K : OkW s) (n : Nat) (ps : List Nat) : (performed s n ps).2.length ≤ 31 := by
  have one1 : (1 : Nat) ≤ 31 := by decide
  unfold performed
  split
  · split <;> exact one1
  · cases s with
    | none => exact one1
    | some I => exact op_short K n ps
/-! ### the calls in the list -/
theorem flat_append (a b : Req) : flat (a ++ b) = flat a ++ flat b := List.flatMap_append
theorem flat_cons (c : Nat × List Nat) (r : Req) : flat (c :: r) = (c.1 : Int) :: (zs c.2 ++ flat r) := by
  show (one c) ++ flat r = _
  rfl
theorem flat_at {r : Req} {i : Nat} {c : Nat × List Nat} (h : r[i]? = some c) : flat r = flat (r.take i) ++ (c.1 : Int) :: (zs c.2 ++ flat (r.drop (i + 1))) := by
  obtain ⟨h1, h2⟩ := List.getElem?_eq_some_iff.mp h
  rw [← flat_cons, ← h2, ← List.drop_eq_getElem_cons h1, ← flat_append, List.take_append_drop]
theorem flat_take {r : Req} {i : Nat} {c : Nat × List Nat} (h : r[i]? = some c) : (flat (r.take (i + 1))).length = (flat (r.take i)).length + 1 + c.2.length := by
  rw [take_snoc h, flat_append, List.length_append, flat_cons]
  show _ + ((zs c.2 ++ flat []).length + 1) = _
  rw [List.length_append, zs_len]
  show _ + (c.2.length + 0 + 1) = _
  omega
theorem cut_mid {xs A B C : List V} {x : V} {a b : Nat} (h : xs = A ++ x :: (B ++ C)) (ha : a = A.length + 1) (hb : b = A.length + 1 + B.length) : cutV xs (some (a : Int)) (some (b : Int)) = B := by
  unfold cutV
  rw [HT.sIx_nat, HT.sIx_nat]
  have hl : xs.length = A.length + 1 + (B.length + C.length) := by
    rw [h, List.length_append, List.length_cons, List.length_append]
    omega
  rw [Nat.min_eq_left (by omega), Nat.min_eq_left (by omega), ha, hb]
  have e1 : xs.drop (A.length + 1) = B ++ C := by
    rw [h, ← List.drop_drop, List.drop_left]
    rfl
  rw [e1, show A.length + 1 + B.length - (A.length + 1) = B.length by omega]
  exact List.take_left
section
variable {P : Program} {w : World} {K : PySem.W.Frag} {mg : Str → Option Value} {base : Heap} {fa : Nat → Addr} {fd : Nat → FuncData} {CC CI CR : Addr}
def spAnswers (K : PySem.W.Frag) : Sp := fun vs H Q _ => ∃ (c : Addr) (r : Req), vs = [.ref c] ∧ SqL K H c ((flat r).map V.int) ∧ ((∀ x ∈ r, Fair x) ∧ r.length ≤ 40) ∧ ∀ H' q, H' q = some (.lst ((runW none r).map V.int)) → Q (.ref q) H'
abbrev n86 : List Str := ["calls", "request", "answered", "start", "number", "behind", "numbers"]
theorem sc86 : FnScope n86 ["calls"] (defScope (topS 86)) := ⟨rfl, rfl, rfl, by decide +kernel, rfl, by decide +kernel, by decide +kernel⟩
theorem ok86 {f : Addr} {d : FuncData} (A : Fun K "answers" "answers" (topS 86) f d) (D : All K mg fa fd CC CI CR) : FnOk P w K mg base CX0 12 f d ["calls"] (spAnswers K) := by
  have GR : FnOk P w K mg base CX0 10 (fa 102) (fd 102) ["self"] (spInitR CR) := ok_initR (k := 9) D
  have G83 : FnOk P w K mg base CX0 11 (fa 83) (fd 83) ["request", "number", "parameters"] (spPerform CC CI CR) := ok83 D
  obtain ⟨tp, to, tn, its, gp, lp, t1, t2, t3, t4⟩ := D.pars
  refine A.ok sc86 (fun vs H Q E h => ?_) (fun cdv A outer s H vs Q E hr h => ?_)
  · obtain ⟨c, r, rfl, _⟩ := h
    rfl
  · obtain ⟨c, r, rfl, hc, ⟨fair, r40⟩, q⟩ := h
    have nd := sc86.nd
    refine ⟨_, pss_cons (ps_set (i := 1) nd rfl (.inl rfl) (pe_make0 D.mR GR hr (by rfl) D.gR D.bR .nil pass0))
      (pss_cons (ps_set (i := 2) nd rfl (.inl rfl) (pe_lst pa_nil))
      (pss_cons (ps_set (i := 3) nd rfl (.inl rfl) pe_int)
      (pss_cons (ps_while PassesOwn.never (pt_cmpR op_lt (pv 3) (pe_callB call_len_seq (by rfl) D.T.bLen PySem.boot_len (pa_cons (pv 0) pa_nil)) (nomark _))
        (pss_cons (ps_set (i := 4) nd rfl (.inl rfl) (pe_ix ix_list (pv 0) (pv 3) (fun _ _ => rfl)))
        (pss_cons (ps_set (i := 5) nd rfl (.inl rfl) (pe_op op_add (pe_op op_add (pv 3) pe_int) (pe_ix ix_tup (pe_glob (v := .ref tp) (by rfl) gp rfl) (pv 4) (fun _ _ => rfl))))
        (pss_cons (ps_set (i := 6) nd rfl (.inl rfl) (pe_fn D.d83 G83 hr (by rfl) (pa_cons (pv 1) (pa_cons (pv 4) (pa_cons (pe_slice sl_list (pv 0) (po_some (pe_op op_add (pv 3) pe_int)) (po_some (pv 5))) pa_nil)))))
        (pss_cons (ps_expr (pe_bm PySem.F.plainAttrs_list PySem.F.slot_list_append PySem.F.type_list_append mt_append (pv 2) (pa_cons (pe_callB call_len_seq (by rfl) D.T.bLen PySem.boot_len (pa_cons (pv 6) pa_nil)) pa_nil)))
        (pss_cons (ps_expr (pe_bm PySem.F.plainAttrs_list PySem.F.slot_list_extend PySem.F.type_list_extend mt_extend (pv 2) (pa_cons (pv 6) pa_nil)))
        (pss_one (ps_set (i := 3) nd rfl (.inl rfl) (pv 5)))))))))
      (pss_one (ps_ret (pv 2)))))), ?_⟩
    intro rq dr nrq ndr drq
    refine ⟨rq, dr, rfl, upd_same, rfl, ?_⟩
    rw [upd_upd]
    have s1 : Same H (upd (upd H dr (.own rq)) rq (.ins CR dr [("instance", V.non)])) := fun b o e => by rw [upd_ne (ne_of_none e nrq), upd_ne (ne_of_none e ndr)]; exact e
    have hr1 : upd (upd H dr (.own rq)) rq (.ins CR dr [("instance", V.non)]) rq = some (.ins CR dr [("instance", V.non)]) := upd_same
    generalize upd (upd H dr (.own rq)) rq (.ins CR dr [("instance", V.non)]) = H1 at s1 hr1
    refine ⟨Nat.zero_le _, fun an nan => ?_⟩
    have sa := same_upd (o := .lst []) nan
    have ha : upd H1 an (.lst []) an = some (.lst []) := upd_same
    have s2 := s1.trans sa
    have hr2 := sa _ _ hr1
    generalize upd H1 an (.lst []) = H2 at sa ha s2 hr2
    have nanH : H an = none := s1.free nan
    -- what is kept by the calls: the list that is answered, the list of the calls
    let N : Addr → Prop := fun b => b = an ∨ (b = c ∧ ∃ o, H c = some o)
    have nN : ¬ N rq := fun z => by
      rcases z with z | ⟨z, o, e⟩
      · rw [z, nan] at hr1
        cases hr1
      · rw [z] at nrq
        rw [nrq] at e
        cases e
    have hT : SqT K H2 tp (nints counts) := .inr ⟨to, its, tn, lp, t1, t2, t3, t4⟩
    have sq : ∀ {H' : Hp}, (∀ o, H c = some o → H' c = some o) → SqL K H' c ((flat r).map V.int) := by
      intro H' ck
      rcases hc with (e | ⟨o, e⟩) | e
      · exact .inl (.inl (ck _ e))
      · exact .inl (.inr ⟨o, ck _ e⟩)
      · exact .inr e
    have can : ∀ {o : HO}, H c = some o → c ≠ an := fun e z => by rw [z, nanH] at e; cases e
    refine ⟨fun m σ H' => ∃ i y4 y5 y6 s out, m = r.length - i ∧ i ≤ r.length ∧ σ = [some (.ref c), some (.ref rq), some (.ref an), some (.int ((flat (r.take i)).length : Nat)), y4, y5, y6] ∧ (∀ o, H c = some o → H' c = some o) ∧
        ReqAt CC CI CR H' rq s N ∧ OkW s ∧ H' an = some (.lst (out.map V.int)) ∧ out ++ runW s (r.drop i) = runW none r ∧ out.length ≤ 32 * i,
      ⟨_, 0, none, none, none, none, [], rfl, Nat.zero_le _, rfl, fun o e => s2 _ _ e, ⟨dr, _, hr2, nN, rfl⟩, True.intro, ha, rfl, Nat.le_refl _⟩, ?_⟩
    rintro m σ H3 ⟨i, y4, y5, y6, s, out, rfl, hi, rfl, ck, R, OW, ho, eq, len⟩
    refine ⟨_, rfl, _, rfl, c, _, rfl, .inl (sq ck), _, _, rfl, rfl, _, rfl, ?_⟩
    rw [lt_cast, List.length_map]
    by_cases lt : i < r.length
    · have hg := List.getElem?_eq_getElem lt
      have fl := flat_at hg
      have fair1 := fair _ (List.getElem_mem lt)
      generalize r[i] = call at hg fl fair1
      obtain ⟨n, ps⟩ := call
      have long : (flat (r.take i)).length < (flat r).length := by
        rw [fl, List.length_append, List.length_cons]
        omega
      rw [decide_eq_true long]
      have drop : r.drop i = (n, ps) :: r.drop (i + 1) := by
        obtain ⟨h1, h2⟩ := List.getElem?_eq_some_iff.mp hg
        rw [List.drop_eq_getElem_cons h1, h2]
      have flm : (flat r).map V.int = (flat (r.take i)).map V.int ++ V.int (n : Int) :: (nints ps ++ (flat (r.drop (i + 1))).map V.int) := by
        rw [fl, List.map_append, List.map_cons, List.map_append, nints_zs]
      refine iteT ⟨fun σ H' => ∃ y4 y5 y6 s out, σ = [some (.ref c), some (.ref rq), some (.ref an), some (.int ((flat (r.take (i + 1))).length : Nat)), y4, y5, y6] ∧ (∀ o, H c = some o → H' c = some o) ∧
        ReqAt CC CI CR H' rq s N ∧ OkW s ∧ H' an = some (.lst (out.map V.int)) ∧ out ++ runW s (r.drop (i + 1)) = runW none r ∧ out.length ≤ 32 * (i + 1), ?_, ?_⟩
      · rintro σ' H' ⟨y4, y5, y6, s, out, e1, e2⟩
        exact ⟨r.length - (i + 1), by omega, i + 1, y4, y5, y6, s, out, rfl, lt, e1, e2⟩
      · have at1 : ((flat r).map V.int)[(flat (r.take i)).length]? = some (.int (n : Int)) := by
          rw [flm, List.getElem?_append_right (by rw [List.length_map]; exact Nat.le_refl _), List.length_map, Nat.sub_self]
          rfl
        refine ⟨_, rfl, _, rfl, c, _, _, _, rfl, rfl, sq ck, atI_nat at1, ?_⟩
        have hcnt : counts[n]? = some ps.length := by
          have f1 : n < 23 := fair1.1
          have f2 : ps.length = counts.getD n 0 := fair1.2
          have all : ∀ n, n < 23 → counts[n]? = some (counts.getD n 0) := by decide
          rw [f2]
          exact all n f1
        refine ⟨_, rfl, _, _, rfl, rfl, _, rfl, tp, _, _, _, rfl, rfl, .inr ⟨to, its, tn, lp, t1, t2, t3, t4⟩, atI_nat (nints_get hcnt), _, _, rfl, rfl, ?_⟩
        have eb : (((flat (r.take i)).length : Nat) : Int) + 1 + (ps.length : Int) = (((flat (r.take (i + 1))).length : Nat) : Int) := by
          rw [flat_take hg]
          show _ = (((flat (r.take i)).length + 1 + ps.length : Nat) : Int)
          omega
        refine ⟨_, rfl, _, rfl, _, rfl, _, rfl, _, _, rfl, rfl, _, rfl, _, rfl, _, rfl, c, _, rfl, sq ck, fun p np => ?_⟩
        have ecut : cutV ((flat r).map V.int) (some ((((flat (r.take i)).length : Nat) : Int) + 1)) (some ((((flat (r.take i)).length : Nat) : Int) + 1 + (ps.length : Int))) = nints ps := by
          rw [eb, show (((flat (r.take i)).length : Nat) : Int) + 1 = (((flat (r.take i)).length + 1 : Nat) : Int) by omega]
          refine cut_mid flm (by rw [List.length_map]) ?_
          rw [List.length_map, nints_len, flat_take hg]
        have sp := same_upd (o := .lst (cutV ((flat r).map V.int) (some ((((flat (r.take i)).length : Nat) : Int) + 1)) (some ((((flat (r.take i)).length : Nat) : Int) + 1 + (ps.length : Int))))) np
        have hp : upd H3 p (.lst (cutV ((flat r).map V.int) (some ((((flat (r.take i)).length : Nat) : Int) + 1)) (some ((((flat (r.take i)).length : Nat) : Int) + 1 + (ps.length : Int))))) p = some (.lst (nints ps)) := by
          rw [upd_same, ecut]
        have R4 := R.same sp
        have ho4 := sp _ _ ho
        have ck4 : ∀ o, H c = some o → upd H3 p (.lst (cutV ((flat r).map V.int) (some ((((flat (r.take i)).length : Nat) : Int) + 1)) (some ((((flat (r.take i)).length : Nat) : Int) + 1 + (ps.length : Int))))) c = some o := fun o e => sp _ _ (ck _ e)
        have tr4 : Trk N (upd H3 p (.lst (cutV ((flat r).map V.int) (some ((((flat (r.take i)).length : Nat) : Int) + 1)) (some ((((flat (r.take i)).length : Nat) : Int) + 1 + (ps.length : Int)))))) := fun b z => by
          rcases z with rfl | ⟨rfl, o, e⟩
          · exact ⟨_, ho4⟩
          · exact ⟨o, ck4 _ e⟩
        refine ⟨rq, p, s, n, ps, N, rfl, R4, hp, ⟨OW, fair1, tr4⟩, fun H5 q5 k5 R5 nq5 hq5 => ?_⟩
        have ho5 := k5 _ _ ho4 (.inl rfl)
        have ck5 : ∀ o, H c = some o → H5 c = some o := fun o e => k5 _ _ (ck4 _ e) (.inr ⟨rfl, o, e⟩)
        have OW5 := ok_performed OW n ps
        have short := performed_short OW n ps
        have qan : q5 ≠ an := fun z => nq5 (.inl z)
        refine ⟨_, rfl, .inl ⟨rfl, _, .inl (.inl ho5)⟩, _, rfl, q5, _, rfl, .inl (.inl (.inl hq5)), an, _, _, rfl, rfl, ho5, ?_, ?_⟩
        · rw [List.length_map]
          exact Nat.lt_of_le_of_lt (m := 32 * 40) (by omega) (by decide)
        have ho6 : upd H5 an (.lst (out.map V.int ++ [V.int (((performed s n ps).2.map V.int).length : Nat)])) an = some (.lst (out.map V.int ++ [V.int (((performed s n ps).2.map V.int).length : Nat)])) := upd_same
        have hq6 : upd H5 an (.lst (out.map V.int ++ [V.int (((performed s n ps).2.map V.int).length : Nat)])) q5 = some (.lst ((performed s n ps).2.map V.int)) := (upd_ne qan).trans hq5
        refine ⟨_, rfl, .inl ⟨rfl, _, .inl (.inl ho6)⟩, _, rfl, an, q5, _, _, rfl, rfl, ho6, hq6, ?_, ?_⟩
        · rw [List.length_append, List.length_map, List.length_map]
          exact Nat.le_trans (m := 32 * 40) (by show out.length + 1 + _ ≤ _; omega) (by decide)
        rw [upd_upd]
        refine ⟨_, rfl, some (.int (n : Int)), some (.int (((flat (r.take (i + 1))).length : Nat) : Int)), some (.ref q5), (performed s n ps).1, out ++ ((((performed s n ps).2.length : Nat) : Int) :: (performed s n ps).2), ?_, fun o e => (upd_ne (can e)).trans (ck5 _ e), R5.upN (.inl rfl), OW5, ?_, ?_, ?_⟩
        · show _ = [some (V.ref c), some (V.ref rq), some (V.ref an), some (V.int (((flat (r.take (i + 1))).length : Nat) : Int)), some (.int (n : Int)), some (.int (((flat (r.take (i + 1))).length : Nat) : Int)), some (.ref q5)]
          rw [← eb]
          rfl
        · rw [upd_same, List.map_append, List.map_cons, List.length_map, List.append_assoc]
          rfl
        · rw [← eq, drop, List.append_assoc]
          rfl
        · rw [List.length_append, List.length_cons]
          omega
    · have e : i = r.length := by omega
      subst e
      rw [List.take_length, decide_eq_false (Nat.lt_irrefl _)]
      refine iteF ⟨_, rfl, q H3 an ?_⟩
      rw [ho, ← eq, List.drop_length]
      show _ = some (HO.lst ((out ++ []).map V.int))
      rw [List.append_nil]
end
end OL
/-! The end: what the top has written, gathered; the row. -/
namespace OL
open PySem PySem.Spec PyProof.Rows L2
def faOf (l : List (Nat × Addr)) (i : Nat) : Addr := (l.lookup i).getD 0
def fdOf (d : FuncData) (l : List (Nat × FuncData)) (i : Nat) : FuncData := (l.lookup i).getD d
def tkOf (l : List (Nat × Nat)) (i : Nat) : Nat := (l.lookup i).getD 0
theorem def_mk {K : PySem.W.Frag} {h : Heap} {mg : Str → Option Value} (X : K.In h) (G : h.Ns mainGlobals mg) {x : Str} {st : Stmt} {ps : List Str} {f : Addr} {oc kV doc pm cdv ct : Value} {od an : Option Addr} {osl : Array (Option Value)}
    (a : PySem.W.nsIn K mainGlobals x = some (some (.ref f))) (l : K.lookup f = some ⟨oc, od, .func (PySem.W.fnOf x x (defArgs st) (defBody st) (defScope st) .none kV doc pm an cdv ct), osl⟩)
    (c : PySem.W.codeIn K cdv x = true) (k : PySem.W.keepIn K (.ref f) = true)
    (hb : ∀ (kV doc pm : Value) (an : Option Addr) (cdv ct : Value) (us : List Value), us.length = ps.length → bindArgs (PySem.W.fnOf x x (defArgs st) (defBody st) (defScope st) .none kV doc pm an cdv ct) ⟨us, []⟩ = pure (ps.zip us)) :
    ∃ d, DefAt K mg x st ps f d := ⟨_, fun_mk l c k, (fun_mk l c k).binds hb, PySem.W.mg_of X G a⟩
theorem cn_mk {K : PySem.W.Frag} {h : Heap} {mg : Str → Option Value} (X : K.In h) (G : h.Ns mainGlobals mg) {x : Str} {n : Int} {t : Nat} (a : PySem.W.nsIn K mainGlobals x = some (some (.int n t))) : Cn mg x n := ⟨t, PySem.W.mg_of X G a⟩

theorem all_mk {P : Program} {w : World} {K : PySem.W.Frag} {h : Heap} {mg : Str → Option Value} {fm CC CI CR dO tP : Addr} {f2 f3 f4 f5 f6 f7 f9 f10 f11 f12 f13 f14 f16 f17 f18 f25 f26 f27 f28 f30 f31 f32 f33 f34 f51 f52 f53 f54 f55 f56 f57 f58 f59 f60 f61 f62 f63 f64 f65 f66 f67 f68 f69 f70 f71 f72 f73 f74 f75 f76 f77 f78 f79 f80 f81 f83 f86 f100 f101 f102 : Addr} (X : K.In h) (G : h.Ns mainGlobals mg) (hfa : mg "answers" = some (.ref fm))
    {oc2 kV2 dc2 pm2 cd2 ct2 oc3 kV3 dc3 pm3 cd3 ct3 oc4 kV4 dc4 pm4 cd4 ct4 oc5 kV5 dc5 pm5 cd5 ct5 oc6 kV6 dc6 pm6 cd6 ct6 oc7 kV7 dc7 pm7 cd7 ct7 oc9 kV9 dc9 pm9 cd9 ct9 oc10 kV10 dc10 pm10 cd10 ct10 oc11 kV11 dc11 pm11 cd11 ct11 oc12 kV12 dc12 pm12 cd12 ct12 oc13 kV13 dc13 pm13 cd13 ct13 oc14 kV14 dc14 pm14 cd14 ct14 oc16 kV16 dc16 pm16 cd16 ct16 oc17 kV17 dc17 pm17 cd17 ct17 oc18 kV18 dc18 pm18 cd18 ct18 oc25 kV25 dc25 pm25 cd25 ct25 oc26 kV26 dc26 pm26 cd26 ct26 oc27 kV27 dc27 pm27 cd27 ct27 oc28 kV28 dc28 pm28 cd28 ct28 oc30 kV30 dc30 pm30 cd30 ct30 oc31 kV31 dc31 pm31 cd31 ct31 oc32 kV32 dc32 pm32 cd32 ct32 oc33 kV33 dc33 pm33 cd33 ct33 oc34 kV34 dc34 pm34 cd34 ct34 oc51 kV51 dc51 pm51 cd51 ct51 oc52 kV52 dc52 pm52 cd52 ct52 oc53 kV53 dc53 pm53 cd53 ct53 oc54 kV54 dc54 pm54 cd54 ct54 oc55 kV55 dc55 pm55 cd55 ct55 oc56 kV56 dc56 pm56 cd56 ct56 oc57 kV57 dc57 pm57 cd57 ct57 oc58 kV58 dc58 pm58 cd58 ct58 oc59 kV59 dc59 pm59 cd59 ct59 oc60 kV60 dc60 pm60 cd60 ct60 oc61 kV61 dc61 pm61 cd61 ct61 oc62 kV62 dc62 pm62 cd62 ct62 oc63 kV63 dc63 pm63 cd63 ct63 oc64 kV64 dc64 pm64 cd64 ct64 oc65 kV65 dc65 pm65 cd65 ct65 oc66 kV66 dc66 pm66 cd66 ct66 oc67 kV67 dc67 pm67 cd67 ct67 oc68 kV68 dc68 pm68 cd68 ct68 oc69 kV69 dc69 pm69 cd69 ct69 oc70 kV70 dc70 pm70 cd70 ct70 oc71 kV71 dc71 pm71 cd71 ct71 oc72 kV72 dc72 pm72 cd72 ct72 oc73 kV73 dc73 pm73 cd73 ct73 oc74 kV74 dc74 pm74 cd74 ct74 oc75 kV75 dc75 pm75 cd75 ct75 oc76 kV76 dc76 pm76 cd76 ct76 oc77 kV77 dc77 pm77 cd77 ct77 oc78 kV78 dc78 pm78 cd78 ct78 oc79 kV79 dc79 pm79 cd79 ct79 oc80 kV80 dc80 pm80 cd80 ct80 oc81 kV81 dc81 pm81 cd81 ct81 oc83 kV83 dc83 pm83 cd83 ct83 oc86 kV86 dc86 pm86 cd86 ct86 oc100 kV100 dc100 pm100 cd100 ct100 oc101 kV101 dc101 pm101 cd101 ct101 oc102 kV102 dc102 pm102 cd102 ct102 : Value} {od2 an2 od3 an3 od4 an4 od5 an5 od6 an6 od7 an7 od9 an9 od10 an10 od11 an11 od12 an12 od13 an13 od14 an14 od16 an16 od17 an17 od18 an18 od25 an25 od26 an26 od27 an27 od28 an28 od30 an30 od31 an31 od32 an32 od33 an33 od34 an34 od51 an51 od52 an52 od53 an53 od54 an54 od55 an55 od56 an56 od57 an57 od58 an58 od59 an59 od60 an60 od61 an61 od62 an62 od63 an63 od64 an64 od65 an65 od66 an66 od67 an67 od68 an68 od69 an69 od70 an70 od71 an71 od72 an72 od73 an73 od74 an74 od75 an75 od76 an76 od77 an77 od78 an78 od79 an79 od80 an80 od81 an81 od83 an83 od86 an86 od100 an100 od101 an101 od102 an102 : Option Addr} {sl2 sl3 sl4 sl5 sl6 sl7 sl9 sl10 sl11 sl12 sl13 sl14 sl16 sl17 sl18 sl25 sl26 sl27 sl28 sl30 sl31 sl32 sl33 sl34 sl51 sl52 sl53 sl54 sl55 sl56 sl57 sl58 sl59 sl60 sl61 sl62 sl63 sl64 sl65 sl66 sl67 sl68 sl69 sl70 sl71 sl72 sl73 sl74 sl75 sl76 sl77 sl78 sl79 sl80 sl81 sl83 sl86 sl100 sl101 sl102 : Array (Option Value)}
    {u0 u1 u2 u3 u4 u5 u6 u7 u8 u9 u10 u11 u12 u13 u14 u15 u16 u17 tk1 tk2 tk3 tk4 tk5 tk6 tk7 tk8 tk9 tk10 tk11 tk12 tk13 tk14 tk15 tk16 tk17 tk18 tk19 tk20 tk21 tk22 pk0 pk1 pk2 pk3 pk4 pk5 pk6 pk7 pk8 pk9 pk10 pk11 pk12 pk13 pk14 pk15 pk16 pk17 pk18 pk19 pk20 pk21 pk22 nO nP : Nat}
    (gC : PySem.W.nsIn K mainGlobals "Channel" = some (some (.ref CC)))
    (gI : PySem.W.nsIn K mainGlobals "Instance" = some (some (.ref CI)))
    (gR : PySem.W.nsIn K mainGlobals "Request" = some (some (.ref CR)))
    (a2 : PySem.W.nsIn K mainGlobals "available_from" = some (some (.ref f2)))
    (l2 : K.lookup f2 = some ⟨oc2, od2, .func (PySem.W.fnOf "available_from" "available_from" (defArgs (topS 2)) (defBody (topS 2)) (defScope (topS 2)) .none kV2 dc2 pm2 an2 cd2 ct2), sl2⟩)
    (c2 : PySem.W.codeIn K cd2 "available_from" = true)
    (k2 : PySem.W.keepIn K (.ref f2) = true)
    (a3 : PySem.W.nsIn K mainGlobals "is_at_end" = some (some (.ref f3)))
    (l3 : K.lookup f3 = some ⟨oc3, od3, .func (PySem.W.fnOf "is_at_end" "is_at_end" (defArgs (topS 3)) (defBody (topS 3)) (defScope (topS 3)) .none kV3 dc3 pm3 an3 cd3 ct3), sl3⟩)
    (c3 : PySem.W.codeIn K cd3 "is_at_end" = true)
    (k3 : PySem.W.keepIn K (.ref f3) = true)
    (a4 : PySem.W.nsIn K mainGlobals "other_end" = some (some (.ref f4)))
    (l4 : K.lookup f4 = some ⟨oc4, od4, .func (PySem.W.fnOf "other_end" "other_end" (defArgs (topS 4)) (defBody (topS 4)) (defScope (topS 4)) .none kV4 dc4 pm4 an4 cd4 ct4), sl4⟩)
    (c4 : PySem.W.codeIn K cd4 "other_end" = true)
    (k4 : PySem.W.keepIn K (.ref f4) = true)
    (a5 : PySem.W.nsIn K mainGlobals "state_after" = some (some (.ref f5)))
    (l5 : K.lookup f5 = some ⟨oc5, od5, .func (PySem.W.fnOf "state_after" "state_after" (defArgs (topS 5)) (defBody (topS 5)) (defScope (topS 5)) .none kV5 dc5 pm5 an5 cd5 ct5), sl5⟩)
    (c5 : PySem.W.codeIn K cd5 "state_after" = true)
    (k5 : PySem.W.keepIn K (.ref f5) = true)
    (a6 : PySem.W.nsIn K mainGlobals "all_open" = some (some (.ref f6)))
    (l6 : K.lookup f6 = some ⟨oc6, od6, .func (PySem.W.fnOf "all_open" "all_open" (defArgs (topS 6)) (defBody (topS 6)) (defScope (topS 6)) .none kV6 dc6 pm6 an6 cd6 ct6), sl6⟩)
    (c6 : PySem.W.codeIn K cd6 "all_open" = true)
    (k6 : PySem.W.keepIn K (.ref f6) = true)
    (a7 : PySem.W.nsIn K mainGlobals "legal_from" = some (some (.ref f7)))
    (l7 : K.lookup f7 = some ⟨oc7, od7, .func (PySem.W.fnOf "legal_from" "legal_from" (defArgs (topS 7)) (defBody (topS 7)) (defScope (topS 7)) .none kV7 dc7 pm7 an7 cd7 ct7), sl7⟩)
    (c7 : PySem.W.codeIn K cd7 "legal_from" = true)
    (k7 : PySem.W.keepIn K (.ref f7) = true)
    (a9 : PySem.W.nsIn K mainGlobals "safe_moves_from" = some (some (.ref f9)))
    (l9 : K.lookup f9 = some ⟨oc9, od9, .func (PySem.W.fnOf "safe_moves_from" "safe_moves_from" (defArgs (topS 9)) (defBody (topS 9)) (defScope (topS 9)) .none kV9 dc9 pm9 an9 cd9 ct9), sl9⟩)
    (c9 : PySem.W.codeIn K cd9 "safe_moves_from" = true)
    (k9 : PySem.W.keepIn K (.ref f9) = true)
    (a10 : PySem.W.nsIn K mainGlobals "safe_states" = some (some (.ref f10)))
    (l10 : K.lookup f10 = some ⟨oc10, od10, .func (PySem.W.fnOf "safe_states" "safe_states" (defArgs (topS 10)) (defBody (topS 10)) (defScope (topS 10)) .none kV10 dc10 pm10 an10 cd10 ct10), sl10⟩)
    (c10 : PySem.W.codeIn K cd10 "safe_states" = true)
    (k10 : PySem.W.keepIn K (.ref f10) = true)
    (a11 : PySem.W.nsIn K mainGlobals "states_that_can_stay" = some (some (.ref f11)))
    (l11 : K.lookup f11 = some ⟨oc11, od11, .func (PySem.W.fnOf "states_that_can_stay" "states_that_can_stay" (defArgs (topS 11)) (defBody (topS 11)) (defScope (topS 11)) .none kV11 dc11 pm11 an11 cd11 ct11), sl11⟩)
    (c11 : PySem.W.codeIn K cd11 "states_that_can_stay" = true)
    (k11 : PySem.W.keepIn K (.ref f11) = true)
    (a12 : PySem.W.nsIn K mainGlobals "moves_into" = some (some (.ref f12)))
    (l12 : K.lookup f12 = some ⟨oc12, od12, .func (PySem.W.fnOf "moves_into" "moves_into" (defArgs (topS 12)) (defBody (topS 12)) (defScope (topS 12)) .none kV12 dc12 pm12 an12 cd12 ct12), sl12⟩)
    (c12 : PySem.W.codeIn K cd12 "moves_into" = true)
    (k12 : PySem.W.keepIn K (.ref f12) = true)
    (a13 : PySem.W.nsIn K mainGlobals "open_states" = some (some (.ref f13)))
    (l13 : K.lookup f13 = some ⟨oc13, od13, .func (PySem.W.fnOf "open_states" "open_states" (defArgs (topS 13)) (defBody (topS 13)) (defScope (topS 13)) .none kV13 dc13 pm13 an13 cd13 ct13), sl13⟩)
    (c13 : PySem.W.codeIn K cd13 "open_states" = true)
    (k13 : PySem.W.keepIn K (.ref f13) = true)
    (a14 : PySem.W.nsIn K mainGlobals "open_ages" = some (some (.ref f14)))
    (l14 : K.lookup f14 = some ⟨oc14, od14, .func (PySem.W.fnOf "open_ages" "open_ages" (defArgs (topS 14)) (defBody (topS 14)) (defScope (topS 14)) .none kV14 dc14 pm14 an14 cd14 ct14), sl14⟩)
    (c14 : PySem.W.codeIn K cd14 "open_ages" = true)
    (k14 : PySem.W.keepIn K (.ref f14) = true)
    (a16 : PySem.W.nsIn K mainGlobals "first_plan_from" = some (some (.ref f16)))
    (l16 : K.lookup f16 = some ⟨oc16, od16, .func (PySem.W.fnOf "first_plan_from" "first_plan_from" (defArgs (topS 16)) (defBody (topS 16)) (defScope (topS 16)) .none kV16 dc16 pm16 an16 cd16 ct16), sl16⟩)
    (c16 : PySem.W.codeIn K cd16 "first_plan_from" = true)
    (k16 : PySem.W.keepIn K (.ref f16) = true)
    (a17 : PySem.W.nsIn K mainGlobals "safe_plan_from" = some (some (.ref f17)))
    (l17 : K.lookup f17 = some ⟨oc17, od17, .func (PySem.W.fnOf "safe_plan_from" "safe_plan_from" (defArgs (topS 17)) (defBody (topS 17)) (defScope (topS 17)) .none kV17 dc17 pm17 an17 cd17 ct17), sl17⟩)
    (c17 : PySem.W.codeIn K cd17 "safe_plan_from" = true)
    (k17 : PySem.W.keepIn K (.ref f17) = true)
    (a18 : PySem.W.nsIn K mainGlobals "smallest_moves" = some (some (.ref f18)))
    (l18 : K.lookup f18 = some ⟨oc18, od18, .func (PySem.W.fnOf "smallest_moves" "smallest_moves" (defArgs (topS 18)) (defBody (topS 18)) (defScope (topS 18)) .none kV18 dc18 pm18 an18 cd18 ct18), sl18⟩)
    (c18 : PySem.W.codeIn K cd18 "smallest_moves" = true)
    (k18 : PySem.W.keepIn K (.ref f18) = true)
    (a25 : PySem.W.nsIn K mainGlobals "current_state" = some (some (.ref f25)))
    (l25 : K.lookup f25 = some ⟨oc25, od25, .func (PySem.W.fnOf "current_state" "current_state" (defArgs (topS 25)) (defBody (topS 25)) (defScope (topS 25)) .none kV25 dc25 pm25 an25 cd25 ct25), sl25⟩)
    (c25 : PySem.W.codeIn K cd25 "current_state" = true)
    (k25 : PySem.W.keepIn K (.ref f25) = true)
    (a26 : PySem.W.nsIn K mainGlobals "fresh_ages" = some (some (.ref f26)))
    (l26 : K.lookup f26 = some ⟨oc26, od26, .func (PySem.W.fnOf "fresh_ages" "fresh_ages" (defArgs (topS 26)) (defBody (topS 26)) (defScope (topS 26)) .none kV26 dc26 pm26 an26 cd26 ct26), sl26⟩)
    (c26 : PySem.W.codeIn K cd26 "fresh_ages" = true)
    (k26 : PySem.W.keepIn K (.ref f26) = true)
    (a27 : PySem.W.nsIn K mainGlobals "change_max_age" = some (some (.ref f27)))
    (l27 : K.lookup f27 = some ⟨oc27, od27, .func (PySem.W.fnOf "change_max_age" "change_max_age" (defArgs (topS 27)) (defBody (topS 27)) (defScope (topS 27)) .none kV27 dc27 pm27 an27 cd27 ct27), sl27⟩)
    (c27 : PySem.W.codeIn K cd27 "change_max_age" = true)
    (k27 : PySem.W.keepIn K (.ref f27) = true)
    (a28 : PySem.W.nsIn K mainGlobals "copy_of" = some (some (.ref f28)))
    (l28 : K.lookup f28 = some ⟨oc28, od28, .func (PySem.W.fnOf "copy_of" "copy_of" (defArgs (topS 28)) (defBody (topS 28)) (defScope (topS 28)) .none kV28 dc28 pm28 an28 cd28 ct28), sl28⟩)
    (c28 : PySem.W.codeIn K cd28 "copy_of" = true)
    (k28 : PySem.W.keepIn K (.ref f28) = true)
    (a30 : PySem.W.nsIn K mainGlobals "is_in_safe_state" = some (some (.ref f30)))
    (l30 : K.lookup f30 = some ⟨oc30, od30, .func (PySem.W.fnOf "is_in_safe_state" "is_in_safe_state" (defArgs (topS 30)) (defBody (topS 30)) (defScope (topS 30)) .none kV30 dc30 pm30 an30 cd30 ct30), sl30⟩)
    (c30 : PySem.W.codeIn K cd30 "is_in_safe_state" = true)
    (k30 : PySem.W.keepIn K (.ref f30) = true)
    (a31 : PySem.W.nsIn K mainGlobals "would_be_safe" = some (some (.ref f31)))
    (l31 : K.lookup f31 = some ⟨oc31, od31, .func (PySem.W.fnOf "would_be_safe" "would_be_safe" (defArgs (topS 31)) (defBody (topS 31)) (defScope (topS 31)) .none kV31 dc31 pm31 an31 cd31 ct31), sl31⟩)
    (c31 : PySem.W.codeIn K cd31 "would_be_safe" = true)
    (k31 : PySem.W.keepIn K (.ref f31) = true)
    (a32 : PySem.W.nsIn K mainGlobals "is_tight" = some (some (.ref f32)))
    (l32 : K.lookup f32 = some ⟨oc32, od32, .func (PySem.W.fnOf "is_tight" "is_tight" (defArgs (topS 32)) (defBody (topS 32)) (defScope (topS 32)) .none kV32 dc32 pm32 an32 cd32 ct32), sl32⟩)
    (c32 : PySem.W.codeIn K cd32 "is_tight" = true)
    (k32 : PySem.W.keepIn K (.ref f32) = true)
    (a33 : PySem.W.nsIn K mainGlobals "would_start_safely" = some (some (.ref f33)))
    (l33 : K.lookup f33 = some ⟨oc33, od33, .func (PySem.W.fnOf "would_start_safely" "would_start_safely" (defArgs (topS 33)) (defBody (topS 33)) (defScope (topS 33)) .none kV33 dc33 pm33 an33 cd33 ct33), sl33⟩)
    (c33 : PySem.W.codeIn K cd33 "would_start_safely" = true)
    (k33 : PySem.W.keepIn K (.ref f33) = true)
    (a34 : PySem.W.nsIn K mainGlobals "start_places" = some (some (.ref f34)))
    (l34 : K.lookup f34 = some ⟨oc34, od34, .func (PySem.W.fnOf "start_places" "start_places" (defArgs (topS 34)) (defBody (topS 34)) (defScope (topS 34)) .none kV34 dc34 pm34 an34 cd34 ct34), sl34⟩)
    (c34 : PySem.W.codeIn K cd34 "start_places" = true)
    (k34 : PySem.W.keepIn K (.ref f34) = true)
    (a51 : PySem.W.nsIn K mainGlobals "refused" = some (some (.ref f51)))
    (l51 : K.lookup f51 = some ⟨oc51, od51, .func (PySem.W.fnOf "refused" "refused" (defArgs (topS 51)) (defBody (topS 51)) (defScope (topS 51)) .none kV51 dc51 pm51 an51 cd51 ct51), sl51⟩)
    (c51 : PySem.W.codeIn K cd51 "refused" = true)
    (k51 : PySem.W.keepIn K (.ref f51) = true)
    (a52 : PySem.W.nsIn K mainGlobals "is_place" = some (some (.ref f52)))
    (l52 : K.lookup f52 = some ⟨oc52, od52, .func (PySem.W.fnOf "is_place" "is_place" (defArgs (topS 52)) (defBody (topS 52)) (defScope (topS 52)) .none kV52 dc52 pm52 an52 cd52 ct52), sl52⟩)
    (c52 : PySem.W.codeIn K cd52 "is_place" = true)
    (k52 : PySem.W.keepIn K (.ref f52) = true)
    (a53 : PySem.W.nsIn K mainGlobals "is_channel" = some (some (.ref f53)))
    (l53 : K.lookup f53 = some ⟨oc53, od53, .func (PySem.W.fnOf "is_channel" "is_channel" (defArgs (topS 53)) (defBody (topS 53)) (defScope (topS 53)) .none kV53 dc53 pm53 an53 cd53 ct53), sl53⟩)
    (c53 : PySem.W.codeIn K cd53 "is_channel" = true)
    (k53 : PySem.W.keepIn K (.ref f53) = true)
    (a54 : PySem.W.nsIn K mainGlobals "is_max_age" = some (some (.ref f54)))
    (l54 : K.lookup f54 = some ⟨oc54, od54, .func (PySem.W.fnOf "is_max_age" "is_max_age" (defArgs (topS 54)) (defBody (topS 54)) (defScope (topS 54)) .none kV54 dc54 pm54 an54 cd54 ct54), sl54⟩)
    (c54 : PySem.W.codeIn K cd54 "is_max_age" = true)
    (k54 : PySem.W.keepIn K (.ref f54) = true)
    (a55 : PySem.W.nsIn K mainGlobals "counted" = some (some (.ref f55)))
    (l55 : K.lookup f55 = some ⟨oc55, od55, .func (PySem.W.fnOf "counted" "counted" (defArgs (topS 55)) (defBody (topS 55)) (defScope (topS 55)) .none kV55 dc55 pm55 an55 cd55 ct55), sl55⟩)
    (c55 : PySem.W.codeIn K cd55 "counted" = true)
    (k55 : PySem.W.keepIn K (.ref f55) = true)
    (a56 : PySem.W.nsIn K mainGlobals "one_if" = some (some (.ref f56)))
    (l56 : K.lookup f56 = some ⟨oc56, od56, .func (PySem.W.fnOf "one_if" "one_if" (defArgs (topS 56)) (defBody (topS 56)) (defScope (topS 56)) .none kV56 dc56 pm56 an56 cd56 ct56), sl56⟩)
    (c56 : PySem.W.codeIn K cd56 "one_if" = true)
    (k56 : PySem.W.keepIn K (.ref f56) = true)
    (a57 : PySem.W.nsIn K mainGlobals "create" = some (some (.ref f57)))
    (l57 : K.lookup f57 = some ⟨oc57, od57, .func (PySem.W.fnOf "create" "create" (defArgs (topS 57)) (defBody (topS 57)) (defScope (topS 57)) .none kV57 dc57 pm57 an57 cd57 ct57), sl57⟩)
    (c57 : PySem.W.codeIn K cd57 "create" = true)
    (k57 : PySem.W.keepIn K (.ref f57) = true)
    (a58 : PySem.W.nsIn K mainGlobals "add_channel" = some (some (.ref f58)))
    (l58 : K.lookup f58 = some ⟨oc58, od58, .func (PySem.W.fnOf "add_channel" "add_channel" (defArgs (topS 58)) (defBody (topS 58)) (defScope (topS 58)) .none kV58 dc58 pm58 an58 cd58 ct58), sl58⟩)
    (c58 : PySem.W.codeIn K cd58 "add_channel" = true)
    (k58 : PySem.W.keepIn K (.ref f58) = true)
    (a59 : PySem.W.nsIn K mainGlobals "remove_channel" = some (some (.ref f59)))
    (l59 : K.lookup f59 = some ⟨oc59, od59, .func (PySem.W.fnOf "remove_channel" "remove_channel" (defArgs (topS 59)) (defBody (topS 59)) (defScope (topS 59)) .none kV59 dc59 pm59 an59 cd59 ct59), sl59⟩)
    (c59 : PySem.W.codeIn K cd59 "remove_channel" = true)
    (k59 : PySem.W.keepIn K (.ref f59) = true)
    (a60 : PySem.W.nsIn K mainGlobals "set_max_age" = some (some (.ref f60)))
    (l60 : K.lookup f60 = some ⟨oc60, od60, .func (PySem.W.fnOf "set_max_age" "set_max_age" (defArgs (topS 60)) (defBody (topS 60)) (defScope (topS 60)) .none kV60 dc60 pm60 an60 cd60 ct60), sl60⟩)
    (c60 : PySem.W.codeIn K cd60 "set_max_age" = true)
    (k60 : PySem.W.keepIn K (.ref f60) = true)
    (a61 : PySem.W.nsIn K mainGlobals "set_position" = some (some (.ref f61)))
    (l61 : K.lookup f61 = some ⟨oc61, od61, .func (PySem.W.fnOf "set_position" "set_position" (defArgs (topS 61)) (defBody (topS 61)) (defScope (topS 61)) .none kV61 dc61 pm61 an61 cd61 ct61), sl61⟩)
    (c61 : PySem.W.codeIn K cd61 "set_position" = true)
    (k61 : PySem.W.keepIn K (.ref f61) = true)
    (a62 : PySem.W.nsIn K mainGlobals "set_age" = some (some (.ref f62)))
    (l62 : K.lookup f62 = some ⟨oc62, od62, .func (PySem.W.fnOf "set_age" "set_age" (defArgs (topS 62)) (defBody (topS 62)) (defScope (topS 62)) .none kV62 dc62 pm62 an62 cd62 ct62), sl62⟩)
    (c62 : PySem.W.codeIn K cd62 "set_age" = true)
    (k62 : PySem.W.keepIn K (.ref f62) = true)
    (a63 : PySem.W.nsIn K mainGlobals "reset" = some (some (.ref f63)))
    (l63 : K.lookup f63 = some ⟨oc63, od63, .func (PySem.W.fnOf "reset" "reset" (defArgs (topS 63)) (defBody (topS 63)) (defScope (topS 63)) .none kV63 dc63 pm63 an63 cd63 ct63), sl63⟩)
    (c63 : PySem.W.codeIn K cd63 "reset" = true)
    (k63 : PySem.W.keepIn K (.ref f63) = true)
    (a64 : PySem.W.nsIn K mainGlobals "travel" = some (some (.ref f64)))
    (l64 : K.lookup f64 = some ⟨oc64, od64, .func (PySem.W.fnOf "travel" "travel" (defArgs (topS 64)) (defBody (topS 64)) (defScope (topS 64)) .none kV64 dc64 pm64 an64 cd64 ct64), sl64⟩)
    (c64 : PySem.W.codeIn K cd64 "travel" = true)
    (k64 : PySem.W.keepIn K (.ref f64) = true)
    (a65 : PySem.W.nsIn K mainGlobals "wait" = some (some (.ref f65)))
    (l65 : K.lookup f65 = some ⟨oc65, od65, .func (PySem.W.fnOf "wait" "wait" (defArgs (topS 65)) (defBody (topS 65)) (defScope (topS 65)) .none kV65 dc65 pm65 an65 cd65 ct65), sl65⟩)
    (c65 : PySem.W.codeIn K cd65 "wait" = true)
    (k65 : PySem.W.keepIn K (.ref f65) = true)
    (a66 : PySem.W.nsIn K mainGlobals "make_move" = some (some (.ref f66)))
    (l66 : K.lookup f66 = some ⟨oc66, od66, .func (PySem.W.fnOf "make_move" "make_move" (defArgs (topS 66)) (defBody (topS 66)) (defScope (topS 66)) .none kV66 dc66 pm66 an66 cd66 ct66), sl66⟩)
    (c66 : PySem.W.codeIn K cd66 "make_move" = true)
    (k66 : PySem.W.keepIn K (.ref f66) = true)
    (a67 : PySem.W.nsIn K mainGlobals "available_moves" = some (some (.ref f67)))
    (l67 : K.lookup f67 = some ⟨oc67, od67, .func (PySem.W.fnOf "available_moves" "available_moves" (defArgs (topS 67)) (defBody (topS 67)) (defScope (topS 67)) .none kV67 dc67 pm67 an67 cd67 ct67), sl67⟩)
    (c67 : PySem.W.codeIn K cd67 "available_moves" = true)
    (k67 : PySem.W.keepIn K (.ref f67) = true)
    (a68 : PySem.W.nsIn K mainGlobals "legal_moves" = some (some (.ref f68)))
    (l68 : K.lookup f68 = some ⟨oc68, od68, .func (PySem.W.fnOf "legal_moves" "legal_moves" (defArgs (topS 68)) (defBody (topS 68)) (defScope (topS 68)) .none kV68 dc68 pm68 an68 cd68 ct68), sl68⟩)
    (c68 : PySem.W.codeIn K cd68 "legal_moves" = true)
    (k68 : PySem.W.keepIn K (.ref f68) = true)
    (a69 : PySem.W.nsIn K mainGlobals "safe_moves" = some (some (.ref f69)))
    (l69 : K.lookup f69 = some ⟨oc69, od69, .func (PySem.W.fnOf "safe_moves" "safe_moves" (defArgs (topS 69)) (defBody (topS 69)) (defScope (topS 69)) .none kV69 dc69 pm69 an69 cd69 ct69), sl69⟩)
    (c69 : PySem.W.codeIn K cd69 "safe_moves" = true)
    (k69 : PySem.W.keepIn K (.ref f69) = true)
    (a70 : PySem.W.nsIn K mainGlobals "is_safe" = some (some (.ref f70)))
    (l70 : K.lookup f70 = some ⟨oc70, od70, .func (PySem.W.fnOf "is_safe" "is_safe" (defArgs (topS 70)) (defBody (topS 70)) (defScope (topS 70)) .none kV70 dc70 pm70 an70 cd70 ct70), sl70⟩)
    (c70 : PySem.W.codeIn K cd70 "is_safe" = true)
    (k70 : PySem.W.keepIn K (.ref f70) = true)
    (a71 : PySem.W.nsIn K mainGlobals "first_plan" = some (some (.ref f71)))
    (l71 : K.lookup f71 = some ⟨oc71, od71, .func (PySem.W.fnOf "first_plan" "first_plan" (defArgs (topS 71)) (defBody (topS 71)) (defScope (topS 71)) .none kV71 dc71 pm71 an71 cd71 ct71), sl71⟩)
    (c71 : PySem.W.codeIn K cd71 "first_plan" = true)
    (k71 : PySem.W.keepIn K (.ref f71) = true)
    (a72 : PySem.W.nsIn K mainGlobals "safe_plan" = some (some (.ref f72)))
    (l72 : K.lookup f72 = some ⟨oc72, od72, .func (PySem.W.fnOf "safe_plan" "safe_plan" (defArgs (topS 72)) (defBody (topS 72)) (defScope (topS 72)) .none kV72 dc72 pm72 an72 cd72 ct72), sl72⟩)
    (c72 : PySem.W.codeIn K cd72 "safe_plan" = true)
    (k72 : PySem.W.keepIn K (.ref f72) = true)
    (a73 : PySem.W.nsIn K mainGlobals "counted_plan" = some (some (.ref f73)))
    (l73 : K.lookup f73 = some ⟨oc73, od73, .func (PySem.W.fnOf "counted_plan" "counted_plan" (defArgs (topS 73)) (defBody (topS 73)) (defScope (topS 73)) .none kV73 dc73 pm73 an73 cd73 ct73), sl73⟩)
    (c73 : PySem.W.codeIn K cd73 "counted_plan" = true)
    (k73 : PySem.W.keepIn K (.ref f73) = true)
    (a74 : PySem.W.nsIn K mainGlobals "follow_safe_plan" = some (some (.ref f74)))
    (l74 : K.lookup f74 = some ⟨oc74, od74, .func (PySem.W.fnOf "follow_safe_plan" "follow_safe_plan" (defArgs (topS 74)) (defBody (topS 74)) (defScope (topS 74)) .none kV74 dc74 pm74 an74 cd74 ct74), sl74⟩)
    (c74 : PySem.W.codeIn K cd74 "follow_safe_plan" = true)
    (k74 : PySem.W.keepIn K (.ref f74) = true)
    (a75 : PySem.W.nsIn K mainGlobals "safe_start_places" = some (some (.ref f75)))
    (l75 : K.lookup f75 = some ⟨oc75, od75, .func (PySem.W.fnOf "safe_start_places" "safe_start_places" (defArgs (topS 75)) (defBody (topS 75)) (defScope (topS 75)) .none kV75 dc75 pm75 an75 cd75 ct75), sl75⟩)
    (c75 : PySem.W.codeIn K cd75 "safe_start_places" = true)
    (k75 : PySem.W.keepIn K (.ref f75) = true)
    (a76 : PySem.W.nsIn K mainGlobals "tight_channels" = some (some (.ref f76)))
    (l76 : K.lookup f76 = some ⟨oc76, od76, .func (PySem.W.fnOf "tight_channels" "tight_channels" (defArgs (topS 76)) (defBody (topS 76)) (defScope (topS 76)) .none kV76 dc76 pm76 an76 cd76 ct76), sl76⟩)
    (c76 : PySem.W.codeIn K cd76 "tight_channels" = true)
    (k76 : PySem.W.keepIn K (.ref f76) = true)
    (a77 : PySem.W.nsIn K mainGlobals "is_safe_with_max_age" = some (some (.ref f77)))
    (l77 : K.lookup f77 = some ⟨oc77, od77, .func (PySem.W.fnOf "is_safe_with_max_age" "is_safe_with_max_age" (defArgs (topS 77)) (defBody (topS 77)) (defScope (topS 77)) .none kV77 dc77 pm77 an77 cd77 ct77), sl77⟩)
    (c77 : PySem.W.codeIn K cd77 "is_safe_with_max_age" = true)
    (k77 : PySem.W.keepIn K (.ref f77) = true)
    (a78 : PySem.W.nsIn K mainGlobals "min_common_max_age" = some (some (.ref f78)))
    (l78 : K.lookup f78 = some ⟨oc78, od78, .func (PySem.W.fnOf "min_common_max_age" "min_common_max_age" (defArgs (topS 78)) (defBody (topS 78)) (defScope (topS 78)) .none kV78 dc78 pm78 an78 cd78 ct78), sl78⟩)
    (c78 : PySem.W.codeIn K cd78 "min_common_max_age" = true)
    (k78 : PySem.W.keepIn K (.ref f78) = true)
    (a79 : PySem.W.nsIn K mainGlobals "required_trips" = some (some (.ref f79)))
    (l79 : K.lookup f79 = some ⟨oc79, od79, .func (PySem.W.fnOf "required_trips" "required_trips" (defArgs (topS 79)) (defBody (topS 79)) (defScope (topS 79)) .none kV79 dc79 pm79 an79 cd79 ct79), sl79⟩)
    (c79 : PySem.W.codeIn K cd79 "required_trips" = true)
    (k79 : PySem.W.keepIn K (.ref f79) = true)
    (a80 : PySem.W.nsIn K mainGlobals "list_channels" = some (some (.ref f80)))
    (l80 : K.lookup f80 = some ⟨oc80, od80, .func (PySem.W.fnOf "list_channels" "list_channels" (defArgs (topS 80)) (defBody (topS 80)) (defScope (topS 80)) .none kV80 dc80 pm80 an80 cd80 ct80), sl80⟩)
    (c80 : PySem.W.codeIn K cd80 "list_channels" = true)
    (k80 : PySem.W.keepIn K (.ref f80) = true)
    (a81 : PySem.W.nsIn K mainGlobals "summary" = some (some (.ref f81)))
    (l81 : K.lookup f81 = some ⟨oc81, od81, .func (PySem.W.fnOf "summary" "summary" (defArgs (topS 81)) (defBody (topS 81)) (defScope (topS 81)) .none kV81 dc81 pm81 an81 cd81 ct81), sl81⟩)
    (c81 : PySem.W.codeIn K cd81 "summary" = true)
    (k81 : PySem.W.keepIn K (.ref f81) = true)
    (a83 : PySem.W.nsIn K mainGlobals "perform" = some (some (.ref f83)))
    (l83 : K.lookup f83 = some ⟨oc83, od83, .func (PySem.W.fnOf "perform" "perform" (defArgs (topS 83)) (defBody (topS 83)) (defScope (topS 83)) .none kV83 dc83 pm83 an83 cd83 ct83), sl83⟩)
    (c83 : PySem.W.codeIn K cd83 "perform" = true)
    (k83 : PySem.W.keepIn K (.ref f83) = true)
    (a86 : PySem.W.nsIn K mainGlobals "answers" = some (some (.ref f86)))
    (l86 : K.lookup f86 = some ⟨oc86, od86, .func (PySem.W.fnOf "answers" "answers" (defArgs (topS 86)) (defBody (topS 86)) (defScope (topS 86)) .none kV86 dc86 pm86 an86 cd86 ct86), sl86⟩)
    (c86 : PySem.W.codeIn K cd86 "answers" = true)
    (k86 : PySem.W.keepIn K (.ref f86) = true)
    (a100 : PySem.W.findIn K (.ref CC) "__init__" = some (some (.ref f100)))
    (i100 : PySem.W.isFn K (.ref f100) = true)
    (l100 : K.lookup f100 = some ⟨oc100, od100, .func (PySem.W.fnOf "__init__" "Channel.__init__" (defArgs (partS 22 0)) (defBody (partS 22 0)) (defScope (partS 22 0)) .none kV100 dc100 pm100 an100 cd100 ct100), sl100⟩)
    (c100 : PySem.W.codeIn K cd100 "Channel.__init__" = true)
    (k100 : PySem.W.keepIn K (.ref f100) = true)
    (pgC : PySem.W.plainGet K CC Str.empty = true)
    (hdC : PySem.W.hasDictIn K CC = true)
    (poC : PySem.W.plainOver K CC = true)
    (saC : PySem.W.findIn K (.ref CC) "__setattr__" = some (some (.builtin "object.__setattr__")))
    (mkC : PySem.W.makesIn K CC = true)
    (kcC : PySem.W.keepIn K (.ref CC) = true)
    (nC0 : PySem.W.findIn K (.ref CC) "end_a" = some none)
    (nC1 : PySem.W.findIn K (.ref CC) "end_b" = some none)
    (nC2 : PySem.W.findIn K (.ref CC) "max_age" = some none)
    (a101 : PySem.W.findIn K (.ref CI) "__init__" = some (some (.ref f101)))
    (i101 : PySem.W.isFn K (.ref f101) = true)
    (l101 : K.lookup f101 = some ⟨oc101, od101, .func (PySem.W.fnOf "__init__" "Instance.__init__" (defArgs (partS 23 0)) (defBody (partS 23 0)) (defScope (partS 23 0)) .none kV101 dc101 pm101 an101 cd101 ct101), sl101⟩)
    (c101 : PySem.W.codeIn K cd101 "Instance.__init__" = true)
    (k101 : PySem.W.keepIn K (.ref f101) = true)
    (pgI : PySem.W.plainGet K CI Str.empty = true)
    (hdI : PySem.W.hasDictIn K CI = true)
    (poI : PySem.W.plainOver K CI = true)
    (saI : PySem.W.findIn K (.ref CI) "__setattr__" = some (some (.builtin "object.__setattr__")))
    (mkI : PySem.W.makesIn K CI = true)
    (kcI : PySem.W.keepIn K (.ref CI) = true)
    (nI0 : PySem.W.findIn K (.ref CI) "place_count" = some none)
    (nI1 : PySem.W.findIn K (.ref CI) "channels" = some none)
    (nI2 : PySem.W.findIn K (.ref CI) "ages" = some none)
    (nI3 : PySem.W.findIn K (.ref CI) "place" = some none)
    (nI4 : PySem.W.findIn K (.ref CI) "hours_elapsed" = some none)
    (a102 : PySem.W.findIn K (.ref CR) "__init__" = some (some (.ref f102)))
    (i102 : PySem.W.isFn K (.ref f102) = true)
    (l102 : K.lookup f102 = some ⟨oc102, od102, .func (PySem.W.fnOf "__init__" "Request.__init__" (defArgs (partS 24 0)) (defBody (partS 24 0)) (defScope (partS 24 0)) .none kV102 dc102 pm102 an102 cd102 ct102), sl102⟩)
    (c102 : PySem.W.codeIn K cd102 "Request.__init__" = true)
    (k102 : PySem.W.keepIn K (.ref f102) = true)
    (pgR : PySem.W.plainGet K CR Str.empty = true)
    (hdR : PySem.W.hasDictIn K CR = true)
    (poR : PySem.W.plainOver K CR = true)
    (saR : PySem.W.findIn K (.ref CR) "__setattr__" = some (some (.builtin "object.__setattr__")))
    (mkR : PySem.W.makesIn K CR = true)
    (kcR : PySem.W.keepIn K (.ref CR) = true)
    (nR0 : PySem.W.findIn K (.ref CR) "instance" = some none)
    (v0 : PySem.W.nsIn K mainGlobals "WAIT" = some (some (.int 0 u0)))
    (v1 : PySem.W.nsIn K mainGlobals "LEAST_MAX_AGE" = some (some (.int 1 u1)))
    (v2 : PySem.W.nsIn K mainGlobals "MOST_MAX_AGE" = some (some (.int 3 u2)))
    (v3 : PySem.W.nsIn K mainGlobals "CREATE" = some (some (.int 0 u3)))
    (v4 : PySem.W.nsIn K mainGlobals "LEAST_PLACES" = some (some (.int 2 u4)))
    (v5 : PySem.W.nsIn K mainGlobals "MOST_PLACES" = some (some (.int 4 u5)))
    (v6 : PySem.W.nsIn K mainGlobals "MOST_CHANNELS" = some (some (.int 3 u6)))
    (v7 : PySem.W.nsIn K mainGlobals "MOST_HOURS_OF_FIRST_PLAN" = some (some (.int 9 u7)))
    (v8 : PySem.W.nsIn K mainGlobals "MOST_HOURS_OF_SAFE_PLAN" = some (some (.int 30 u8)))
    (v9 : PySem.W.nsIn K mainGlobals "LEAST_HOURS_TO_FOLLOW" = some (some (.int 1 u9)))
    (v10 : PySem.W.nsIn K mainGlobals "HOURS_OF_TRIPS" = some (some (.int 12 u10)))
    (v11 : PySem.W.nsIn K mainGlobals "NOT_THERE" = some (some (.int 2 u11)))
    (v12 : PySem.W.nsIn K mainGlobals "NO_INSTANCE" = some (some (.int 11 u12)))
    (v13 : PySem.W.nsIn K mainGlobals "NOT_AT_END" = some (some (.int 12 u13)))
    (v14 : PySem.W.nsIn K mainGlobals "OUT_OF_RANGE" = some (some (.int 22 u14)))
    (v15 : PySem.W.nsIn K mainGlobals "TOO_MANY_CHANNELS" = some (some (.int 28 u15)))
    (v16 : PySem.W.nsIn K mainGlobals "NO_PLAN" = some (some (.int 33 u16)))
    (v17 : PySem.W.nsIn K mainGlobals "WOULD_FREEZE" = some (some (.int 35 u17)))
    (b_enumerate : PySem.W.nsIn K mainGlobals "enumerate" = some none)
    (b_tuple : PySem.W.nsIn K mainGlobals "tuple" = some none)
    (b_zip : PySem.W.nsIn K mainGlobals "zip" = some none)
    (b_len : PySem.W.nsIn K mainGlobals "len" = some none)
    (b_range : PySem.W.nsIn K mainGlobals "range" = some none)
    (b_min : PySem.W.nsIn K mainGlobals "min" = some none)
    (b_list : PySem.W.nsIn K mainGlobals "list" = some none)
    (b_sum : PySem.W.nsIn K mainGlobals "sum" = some none)
    (b_reversed : PySem.W.nsIn K mainGlobals "reversed" = some none)
    (gO : PySem.W.nsIn K mainGlobals "OPERATIONS" = some (some (.ref dO)))
    (lO : K.lookup dO = some ⟨.type "dict", none, .dict #[⟨1, .int 1 tk1, .ref f58⟩, ⟨2, .int 2 tk2, .ref f59⟩, ⟨3, .int 3 tk3, .ref f60⟩, ⟨4, .int 4 tk4, .ref f61⟩, ⟨5, .int 5 tk5, .ref f62⟩, ⟨6, .int 6 tk6, .ref f63⟩, ⟨7, .int 7 tk7, .ref f64⟩, ⟨8, .int 8 tk8, .ref f65⟩, ⟨9, .int 9 tk9, .ref f67⟩, ⟨10, .int 10 tk10, .ref f68⟩, ⟨11, .int 11 tk11, .ref f69⟩, ⟨12, .int 12 tk12, .ref f70⟩, ⟨13, .int 13 tk13, .ref f71⟩, ⟨14, .int 14 tk14, .ref f72⟩, ⟨15, .int 15 tk15, .ref f74⟩, ⟨16, .int 16 tk16, .ref f75⟩, ⟨17, .int 17 tk17, .ref f76⟩, ⟨18, .int 18 tk18, .ref f77⟩, ⟨19, .int 19 tk19, .ref f78⟩, ⟨20, .int 20 tk20, .ref f79⟩, ⟨21, .int 21 tk21, .ref f80⟩, ⟨22, .int 22 tk22, .ref f81⟩] nO, #[]⟩)
    (gP : PySem.W.nsIn K mainGlobals "PARAMETER_COUNTS" = some (some (.ref tP)))
    (lP : K.lookup tP = some ⟨.type "tuple", none, .seq #[.int 1 pk0, .int 3 pk1, .int 1 pk2, .int 2 pk3, .int 1 pk4, .int 2 pk5, .int 0 pk6, .int 1 pk7, .int 0 pk8, .int 0 pk9, .int 0 pk10, .int 0 pk11, .int 0 pk12, .int 1 pk13, .int 1 pk14, .int 1 pk15, .int 0 pk16, .int 0 pk17, .int 2 pk18, .int 0 pk19, .int 0 pk20, .int 0 pk21, .int 0 pk22] nP, #[]⟩)
    : ∃ fd : FuncData, (∀ (s : Shared) (us : List Value), us.length = (["calls"] : List Str).length → BindsTo s fd ⟨us, []⟩ ((["calls"] : List Str).zip us)) ∧ ∀ base : Heap, K.In base → base.Ns mainGlobals mg → FnOk P w K mg base CX0 12 fm fd ["calls"] (spAnswers K) := by
  have e := hfa.symm.trans (PySem.W.mg_of X G a86)
  cases e
  obtain ⟨d2, D2⟩ := def_mk (ps := ["channels", "place"]) X G a2 l2 c2 k2 fun _ _ _ _ _ _ us hl => match us, hl with | [_, _], _ => rfl
  obtain ⟨d3, D3⟩ := def_mk (ps := ["channel", "place"]) X G a3 l3 c3 k3 fun _ _ _ _ _ _ us hl => match us, hl with | [_, _], _ => rfl
  obtain ⟨d4, D4⟩ := def_mk (ps := ["channel", "place"]) X G a4 l4 c4 k4 fun _ _ _ _ _ _ us hl => match us, hl with | [_, _], _ => rfl
  obtain ⟨d5, D5⟩ := def_mk (ps := ["channels", "state", "move"]) X G a5 l5 c5 k5 fun _ _ _ _ _ _ us hl => match us, hl with | [_, _, _], _ => rfl
  obtain ⟨d6, D6⟩ := def_mk (ps := ["channels", "state"]) X G a6 l6 c6 k6 fun _ _ _ _ _ _ us hl => match us, hl with | [_, _], _ => rfl
  obtain ⟨d7, D7⟩ := def_mk (ps := ["channels", "state"]) X G a7 l7 c7 k7 fun _ _ _ _ _ _ us hl => match us, hl with | [_, _], _ => rfl
  obtain ⟨d9, D9⟩ := def_mk (ps := ["place_count", "channels", "state"]) X G a9 l9 c9 k9 fun _ _ _ _ _ _ us hl => match us, hl with | [_, _, _], _ => rfl
  obtain ⟨d10, D10⟩ := def_mk (ps := ["place_count", "channels"]) X G a10 l10 c10 k10 fun _ _ _ _ _ _ us hl => match us, hl with | [_, _], _ => rfl
  obtain ⟨d11, D11⟩ := def_mk (ps := ["channels", "states"]) X G a11 l11 c11 k11 fun _ _ _ _ _ _ us hl => match us, hl with | [_, _], _ => rfl
  obtain ⟨d12, D12⟩ := def_mk (ps := ["channels", "state", "states"]) X G a12 l12 c12 k12 fun _ _ _ _ _ _ us hl => match us, hl with | [_, _, _], _ => rfl
  obtain ⟨d13, D13⟩ := def_mk (ps := ["place_count", "channels"]) X G a13 l13 c13 k13 fun _ _ _ _ _ _ us hl => match us, hl with | [_, _], _ => rfl
  obtain ⟨d14, D14⟩ := def_mk (ps := ["channels"]) X G a14 l14 c14 k14 fun _ _ _ _ _ _ us hl => match us, hl with | [_], _ => rfl
  obtain ⟨d16, D16⟩ := def_mk (ps := ["place_count", "channels", "state", "hours"]) X G a16 l16 c16 k16 fun _ _ _ _ _ _ us hl => match us, hl with | [_, _, _, _], _ => rfl
  obtain ⟨d17, D17⟩ := def_mk (ps := ["place_count", "channels", "state", "hours"]) X G a17 l17 c17 k17 fun _ _ _ _ _ _ us hl => match us, hl with | [_, _, _, _], _ => rfl
  obtain ⟨d18, D18⟩ := def_mk (ps := ["channels", "state", "goals"]) X G a18 l18 c18 k18 fun _ _ _ _ _ _ us hl => match us, hl with | [_, _, _], _ => rfl
  obtain ⟨d25, D25⟩ := def_mk (ps := ["instance"]) X G a25 l25 c25 k25 fun _ _ _ _ _ _ us hl => match us, hl with | [_], _ => rfl
  obtain ⟨d26, D26⟩ := def_mk (ps := ["instance"]) X G a26 l26 c26 k26 fun _ _ _ _ _ _ us hl => match us, hl with | [_], _ => rfl
  obtain ⟨d27, D27⟩ := def_mk (ps := ["instance", "number", "max_age"]) X G a27 l27 c27 k27 fun _ _ _ _ _ _ us hl => match us, hl with | [_, _, _], _ => rfl
  obtain ⟨d28, D28⟩ := def_mk (ps := ["instance"]) X G a28 l28 c28 k28 fun _ _ _ _ _ _ us hl => match us, hl with | [_], _ => rfl
  obtain ⟨d30, D30⟩ := def_mk (ps := ["instance"]) X G a30 l30 c30 k30 fun _ _ _ _ _ _ us hl => match us, hl with | [_], _ => rfl
  obtain ⟨d31, D31⟩ := def_mk (ps := ["instance", "number", "max_age"]) X G a31 l31 c31 k31 fun _ _ _ _ _ _ us hl => match us, hl with | [_, _, _], _ => rfl
  obtain ⟨d32, D32⟩ := def_mk (ps := ["instance", "number"]) X G a32 l32 c32 k32 fun _ _ _ _ _ _ us hl => match us, hl with | [_, _], _ => rfl
  obtain ⟨d33, D33⟩ := def_mk (ps := ["instance", "max_age"]) X G a33 l33 c33 k33 fun _ _ _ _ _ _ us hl => match us, hl with | [_, _], _ => rfl
  obtain ⟨d34, D34⟩ := def_mk (ps := ["instance"]) X G a34 l34 c34 k34 fun _ _ _ _ _ _ us hl => match us, hl with | [_], _ => rfl
  obtain ⟨d51, D51⟩ := def_mk (ps := ["code"]) X G a51 l51 c51 k51 fun _ _ _ _ _ _ us hl => match us, hl with | [_], _ => rfl
  obtain ⟨d52, D52⟩ := def_mk (ps := ["instance", "place"]) X G a52 l52 c52 k52 fun _ _ _ _ _ _ us hl => match us, hl with | [_, _], _ => rfl
  obtain ⟨d53, D53⟩ := def_mk (ps := ["instance", "channel"]) X G a53 l53 c53 k53 fun _ _ _ _ _ _ us hl => match us, hl with | [_, _], _ => rfl
  obtain ⟨d54, D54⟩ := def_mk (ps := ["max_age"]) X G a54 l54 c54 k54 fun _ _ _ _ _ _ us hl => match us, hl with | [_], _ => rfl
  obtain ⟨d55, D55⟩ := def_mk (ps := ["numbers"]) X G a55 l55 c55 k55 fun _ _ _ _ _ _ us hl => match us, hl with | [_], _ => rfl
  obtain ⟨d56, D56⟩ := def_mk (ps := ["holds"]) X G a56 l56 c56 k56 fun _ _ _ _ _ _ us hl => match us, hl with | [_], _ => rfl
  obtain ⟨d57, D57⟩ := def_mk (ps := ["request", "parameters"]) X G a57 l57 c57 k57 fun _ _ _ _ _ _ us hl => match us, hl with | [_, _], _ => rfl
  obtain ⟨d58, D58⟩ := def_mk (ps := ["instance", "parameters"]) X G a58 l58 c58 k58 fun _ _ _ _ _ _ us hl => match us, hl with | [_, _], _ => rfl
  obtain ⟨d59, D59⟩ := def_mk (ps := ["instance", "parameters"]) X G a59 l59 c59 k59 fun _ _ _ _ _ _ us hl => match us, hl with | [_, _], _ => rfl
  obtain ⟨d60, D60⟩ := def_mk (ps := ["instance", "parameters"]) X G a60 l60 c60 k60 fun _ _ _ _ _ _ us hl => match us, hl with | [_, _], _ => rfl
  obtain ⟨d61, D61⟩ := def_mk (ps := ["instance", "parameters"]) X G a61 l61 c61 k61 fun _ _ _ _ _ _ us hl => match us, hl with | [_, _], _ => rfl
  obtain ⟨d62, D62⟩ := def_mk (ps := ["instance", "parameters"]) X G a62 l62 c62 k62 fun _ _ _ _ _ _ us hl => match us, hl with | [_, _], _ => rfl
  obtain ⟨d63, D63⟩ := def_mk (ps := ["instance", "parameters"]) X G a63 l63 c63 k63 fun _ _ _ _ _ _ us hl => match us, hl with | [_, _], _ => rfl
  obtain ⟨d64, D64⟩ := def_mk (ps := ["instance", "parameters"]) X G a64 l64 c64 k64 fun _ _ _ _ _ _ us hl => match us, hl with | [_, _], _ => rfl
  obtain ⟨d65, D65⟩ := def_mk (ps := ["instance", "parameters"]) X G a65 l65 c65 k65 fun _ _ _ _ _ _ us hl => match us, hl with | [_, _], _ => rfl
  obtain ⟨d66, D66⟩ := def_mk (ps := ["instance", "move"]) X G a66 l66 c66 k66 fun _ _ _ _ _ _ us hl => match us, hl with | [_, _], _ => rfl
  obtain ⟨d67, D67⟩ := def_mk (ps := ["instance", "parameters"]) X G a67 l67 c67 k67 fun _ _ _ _ _ _ us hl => match us, hl with | [_, _], _ => rfl
  obtain ⟨d68, D68⟩ := def_mk (ps := ["instance", "parameters"]) X G a68 l68 c68 k68 fun _ _ _ _ _ _ us hl => match us, hl with | [_, _], _ => rfl
  obtain ⟨d69, D69⟩ := def_mk (ps := ["instance", "parameters"]) X G a69 l69 c69 k69 fun _ _ _ _ _ _ us hl => match us, hl with | [_, _], _ => rfl
  obtain ⟨d70, D70⟩ := def_mk (ps := ["instance", "parameters"]) X G a70 l70 c70 k70 fun _ _ _ _ _ _ us hl => match us, hl with | [_, _], _ => rfl
  obtain ⟨d71, D71⟩ := def_mk (ps := ["instance", "parameters"]) X G a71 l71 c71 k71 fun _ _ _ _ _ _ us hl => match us, hl with | [_, _], _ => rfl
  obtain ⟨d72, D72⟩ := def_mk (ps := ["instance", "parameters"]) X G a72 l72 c72 k72 fun _ _ _ _ _ _ us hl => match us, hl with | [_, _], _ => rfl
  obtain ⟨d73, D73⟩ := def_mk (ps := ["plan"]) X G a73 l73 c73 k73 fun _ _ _ _ _ _ us hl => match us, hl with | [_], _ => rfl
  obtain ⟨d74, D74⟩ := def_mk (ps := ["instance", "parameters"]) X G a74 l74 c74 k74 fun _ _ _ _ _ _ us hl => match us, hl with | [_, _], _ => rfl
  obtain ⟨d75, D75⟩ := def_mk (ps := ["instance", "parameters"]) X G a75 l75 c75 k75 fun _ _ _ _ _ _ us hl => match us, hl with | [_, _], _ => rfl
  obtain ⟨d76, D76⟩ := def_mk (ps := ["instance", "parameters"]) X G a76 l76 c76 k76 fun _ _ _ _ _ _ us hl => match us, hl with | [_, _], _ => rfl
  obtain ⟨d77, D77⟩ := def_mk (ps := ["instance", "parameters"]) X G a77 l77 c77 k77 fun _ _ _ _ _ _ us hl => match us, hl with | [_, _], _ => rfl
  obtain ⟨d78, D78⟩ := def_mk (ps := ["instance", "parameters"]) X G a78 l78 c78 k78 fun _ _ _ _ _ _ us hl => match us, hl with | [_, _], _ => rfl
  obtain ⟨d79, D79⟩ := def_mk (ps := ["instance", "parameters"]) X G a79 l79 c79 k79 fun _ _ _ _ _ _ us hl => match us, hl with | [_, _], _ => rfl
  obtain ⟨d80, D80⟩ := def_mk (ps := ["instance", "parameters"]) X G a80 l80 c80 k80 fun _ _ _ _ _ _ us hl => match us, hl with | [_, _], _ => rfl
  obtain ⟨d81, D81⟩ := def_mk (ps := ["instance", "parameters"]) X G a81 l81 c81 k81 fun _ _ _ _ _ _ us hl => match us, hl with | [_, _], _ => rfl
  obtain ⟨d83, D83⟩ := def_mk (ps := ["request", "number", "parameters"]) X G a83 l83 c83 k83 fun _ _ _ _ _ _ us hl => match us, hl with | [_, _, _], _ => rfl
  have F100 := fun_mk (st := partS 22 0) l100 c100 k100
  have B100 := F100.binds (ps := ["self", "end_a", "end_b", "max_age"]) fun _ _ _ _ _ _ us hl => match us, hl with | [_, _, _, _], _ => rfl
  have F101 := fun_mk (st := partS 23 0) l101 c101 k101
  have B101 := F101.binds (ps := ["self", "place_count"]) fun _ _ _ _ _ _ us hl => match us, hl with | [_, _], _ => rfl
  have F102 := fun_mk (st := partS 24 0) l102 c102 k102
  have B102 := F102.binds (ps := ["self"]) fun _ _ _ _ _ _ us hl => match us, hl with | [_], _ => rfl
  have F86 := fun_mk (st := topS 86) l86 c86 k86
  generalize hd100 : PySem.W.fnOf "__init__" "Channel.__init__" (defArgs (partS 22 0)) (defBody (partS 22 0)) (defScope (partS 22 0)) .none kV100 dc100 pm100 an100 cd100 ct100 = d100 at F100 B100
  generalize hd101 : PySem.W.fnOf "__init__" "Instance.__init__" (defArgs (partS 23 0)) (defBody (partS 23 0)) (defScope (partS 23 0)) .none kV101 dc101 pm101 an101 cd101 ct101 = d101 at F101 B101
  generalize hd102 : PySem.W.fnOf "__init__" "Request.__init__" (defArgs (partS 24 0)) (defBody (partS 24 0)) (defScope (partS 24 0)) .none kV102 dc102 pm102 an102 cd102 ct102 = d102 at F102 B102
  have T : Txt K mg CC CI CR := {
    cl := ⟨pgC, hdC, poC, saC⟩, clI := ⟨pgI, hdI, poI, saI⟩, clR := ⟨pgR, hdR, poR, saR⟩, nA := nC0, nB := nC1, nM := nC2, gWait := .inr (cn_mk X G v0),
    bEnum := PySem.W.mg_none_of X G b_enumerate, bTuple := PySem.W.mg_none_of X G b_tuple, bZip := PySem.W.mg_none_of X G b_zip, bLen := PySem.W.mg_none_of X G b_len, bRange := PySem.W.mg_none_of X G b_range, bMin := PySem.W.mg_none_of X G b_min, bList := PySem.W.mg_none_of X G b_list }
  have A : All K mg (faOf [(2, f2), (3, f3), (4, f4), (5, f5), (6, f6), (7, f7), (9, f9), (10, f10), (11, f11), (12, f12), (13, f13), (14, f14), (16, f16), (17, f17), (18, f18), (25, f25), (26, f26), (27, f27), (28, f28), (30, f30), (31, f31), (32, f32), (33, f33), (34, f34), (51, f51), (52, f52), (53, f53), (54, f54), (55, f55), (56, f56), (57, f57), (58, f58), (59, f59), (60, f60), (61, f61), (62, f62), (63, f63), (64, f64), (65, f65), (66, f66), (67, f67), (68, f68), (69, f69), (70, f70), (71, f71), (72, f72), (73, f73), (74, f74), (75, f75), (76, f76), (77, f77), (78, f78), (79, f79), (80, f80), (81, f81), (83, f83), (100, f100), (101, f101), (102, f102)]) (fdOf d2 [(2, d2), (3, d3), (4, d4), (5, d5), (6, d6), (7, d7), (9, d9), (10, d10), (11, d11), (12, d12), (13, d13), (14, d14), (16, d16), (17, d17), (18, d18), (25, d25), (26, d26), (27, d27), (28, d28), (30, d30), (31, d31), (32, d32), (33, d33), (34, d34), (51, d51), (52, d52), (53, d53), (54, d54), (55, d55), (56, d56), (57, d57), (58, d58), (59, d59), (60, d60), (61, d61), (62, d62), (63, d63), (64, d64), (65, d65), (66, d66), (67, d67), (68, d68), (69, d69), (70, d70), (71, d71), (72, d72), (73, d73), (74, d74), (75, d75), (76, d76), (77, d77), (78, d78), (79, d79), (80, d80), (81, d81), (83, d83), (100, d100), (101, d101), (102, d102)]) CC CI CR := {
    T := T, M := ⟨D2, D3, D4, D5, D6, D7⟩, Z := ⟨D9, D10, D11, D12, D13, D14⟩,
    d16 := D16, d17 := D17, d18 := D18, d25 := D25, d26 := D26, d27 := D27, d28 := D28, d30 := D30, d31 := D31, d32 := D32, d33 := D33, d34 := D34, d51 := D51, d52 := D52, d53 := D53, d54 := D54, d55 := D55, d56 := D56, d57 := D57, d58 := D58, d59 := D59, d60 := D60, d61 := D61, d62 := D62, d63 := D63, d64 := D64, d65 := D65, d66 := D66, d67 := D67, d68 := D68, d69 := D69, d70 := D70, d71 := D71, d72 := D72, d73 := D73, d74 := D74, d75 := D75, d76 := D76, d77 := D77, d78 := D78, d79 := D79, d80 := D80, d81 := D81, d83 := D83,
    fC := F100, fI := F101, fR := F102, bC := B100, bI := B101, bR := B102, mC := ⟨mkC, a100, i100, kcC⟩, mI := ⟨mkI, a101, i101, kcI⟩, mR := ⟨mkR, a102, i102, kcR⟩,
    gC := PySem.W.mg_of X G gC, gI := PySem.W.mg_of X G gI, gR := PySem.W.mg_of X G gR, nPc := nI0, nCs := nI1, nAg := nI2, nPl := nI3, nHe := nI4, nIn := nR0, bSum := PySem.W.mg_none_of X G b_sum, bRev := PySem.W.mg_none_of X G b_reversed,
    c1 := cn_mk X G v1, c3 := cn_mk X G v2, cCr := cn_mk X G v3, cLp := cn_mk X G v4, cMp := cn_mk X G v5, cMc := cn_mk X G v6, cHf := cn_mk X G v7, cHs := cn_mk X G v8, cHl := cn_mk X G v9, cHt := cn_mk X G v10, e2 := cn_mk X G v11, e11 := cn_mk X G v12, e12 := cn_mk X G v13, e22 := cn_mk X G v14, e28 := cn_mk X G v15, e33 := cn_mk X G v16, e35 := cn_mk X G v17,
    dict := ⟨dO, tkOf [(1, tk1), (2, tk2), (3, tk3), (4, tk4), (5, tk5), (6, tk6), (7, tk7), (8, tk8), (9, tk9), (10, tk10), (11, tk11), (12, tk12), (13, tk13), (14, tk14), (15, tk15), (16, tk16), (17, tk17), (18, tk18), (19, tk19), (20, tk20), (21, tk21), (22, tk22)], nO, PySem.W.mg_of X G gO, lO⟩,
    pars := ⟨tP, _, _, _, PySem.W.mg_of X G gP, lP, rfl, rfl, by show 23 ≤ sizeLine; decide, by exact .cons ⟨_, rfl⟩ (.cons ⟨_, rfl⟩ (.cons ⟨_, rfl⟩ (.cons ⟨_, rfl⟩ (.cons ⟨_, rfl⟩ (.cons ⟨_, rfl⟩ (.cons ⟨_, rfl⟩ (.cons ⟨_, rfl⟩ (.cons ⟨_, rfl⟩ (.cons ⟨_, rfl⟩ (.cons ⟨_, rfl⟩ (.cons ⟨_, rfl⟩ (.cons ⟨_, rfl⟩ (.cons ⟨_, rfl⟩ (.cons ⟨_, rfl⟩ (.cons ⟨_, rfl⟩ (.cons ⟨_, rfl⟩ (.cons ⟨_, rfl⟩ (.cons ⟨_, rfl⟩ (.cons ⟨_, rfl⟩ (.cons ⟨_, rfl⟩ (.cons ⟨_, rfl⟩ (.cons ⟨_, rfl⟩ (.nil)))))))))))))))))))))))⟩ }
  exact ⟨_, fun s us hu => match us, hu with | [_], _ => .of_eq rfl, fun base _ _ => ok86 F86 A⟩
end OL
open PySem PySem.W PyProof.Rows
theorem PySem.Challenge.cw_openlanes_s01_answers_holds : PySem.Challenge.rw_openlanes_s01_answers.Holds := by
  w_on; k_headS; (case hw => exact ⟨[.list [.int 0, .int 2]], by decide +kernel, by decide +kernel⟩)
  k_fillS
  refine L2.walk_specK (r := PySem.Challenge.rw_openlanes_s01_answers) (k := 12) (CX := L2.CX0) (ps := ["calls"]) (sp := OL.spAnswers) (by decide +kernel) rfl rfl ⟨rfl, by decide, by decide⟩
    (fun w h Y => PySem.W.kIn_of Y) ?F ?S (fun _ _ _ _ z => z)
  case F =>
    intro w mg fa h Y KX G hmg
    refine' OL.all_mk KX G hmg ?gC ?gI ?gR ?a2 ?l2 ?c2 ?k2 ?a3 ?l3 ?c3 ?k3 ?a4 ?l4 ?c4 ?k4 ?a5 ?l5 ?c5 ?k5 ?a6 ?l6 ?c6 ?k6 ?a7 ?l7 ?c7 ?k7 ?a9 ?l9 ?c9 ?k9 ?a10 ?l10 ?c10 ?k10 ?a11 ?l11 ?c11 ?k11 ?a12 ?l12 ?c12 ?k12 ?a13 ?l13 ?c13 ?k13 ?a14 ?l14 ?c14 ?k14 ?a16 ?l16 ?c16 ?k16 ?a17 ?l17 ?c17 ?k17 ?a18 ?l18 ?c18 ?k18 ?a25 ?l25 ?c25 ?k25 ?a26 ?l26 ?c26 ?k26 ?a27 ?l27 ?c27 ?k27 ?a28 ?l28 ?c28 ?k28 ?a30 ?l30 ?c30 ?k30 ?a31 ?l31 ?c31 ?k31 ?a32 ?l32 ?c32 ?k32 ?a33 ?l33 ?c33 ?k33 ?a34 ?l34 ?c34 ?k34 ?a51 ?l51 ?c51 ?k51 ?a52 ?l52 ?c52 ?k52 ?a53 ?l53 ?c53 ?k53 ?a54 ?l54 ?c54 ?k54 ?a55 ?l55 ?c55 ?k55 ?a56 ?l56 ?c56 ?k56 ?a57 ?l57 ?c57 ?k57 ?a58 ?l58 ?c58 ?k58 ?a59 ?l59 ?c59 ?k59 ?a60 ?l60 ?c60 ?k60 ?a61 ?l61 ?c61 ?k61 ?a62 ?l62 ?c62 ?k62 ?a63 ?l63 ?c63 ?k63 ?a64 ?l64 ?c64 ?k64 ?a65 ?l65 ?c65 ?k65 ?a66 ?l66 ?c66 ?k66 ?a67 ?l67 ?c67 ?k67 ?a68 ?l68 ?c68 ?k68 ?a69 ?l69 ?c69 ?k69 ?a70 ?l70 ?c70 ?k70 ?a71 ?l71 ?c71 ?k71 ?a72 ?l72 ?c72 ?k72 ?a73 ?l73 ?c73 ?k73 ?a74 ?l74 ?c74 ?k74 ?a75 ?l75 ?c75 ?k75 ?a76 ?l76 ?c76 ?k76 ?a77 ?l77 ?c77 ?k77 ?a78 ?l78 ?c78 ?k78 ?a79 ?l79 ?c79 ?k79 ?a80 ?l80 ?c80 ?k80 ?a81 ?l81 ?c81 ?k81 ?a83 ?l83 ?c83 ?k83 ?a86 ?l86 ?c86 ?k86 ?a100 ?i100 ?l100 ?c100 ?k100 ?pgC ?hdC ?poC ?saC ?mkC ?kcC ?nC0 ?nC1 ?nC2 ?a101 ?i101 ?l101 ?c101 ?k101 ?pgI ?hdI ?poI ?saI ?mkI ?kcI ?nI0 ?nI1 ?nI2 ?nI3 ?nI4 ?a102 ?i102 ?l102 ?c102 ?k102 ?pgR ?hdR ?poR ?saR ?mkR ?kcR ?nR0 ?v0 ?v1 ?v2 ?v3 ?v4 ?v5 ?v6 ?v7 ?v8 ?v9 ?v10 ?v11 ?v12 ?v13 ?v14 ?v15 ?v16 ?v17 ?b_enumerate ?b_tuple ?b_zip ?b_len ?b_range ?b_min ?b_list ?b_sum ?b_reversed ?gO ?lO ?gP ?lP
    (case gC => k_is)
    (case gI => k_is)
    (case gR => k_is)
    (case a2 => k_is)
    (case l2 => k_is)
    (case c2 => k_is)
    (case k2 => k_is)
    (case a3 => k_is)
    (case l3 => k_is)
    (case c3 => k_is)
    (case k3 => k_is)
    (case a4 => k_is)
    (case l4 => k_is)
    (case c4 => k_is)
    (case k4 => k_is)
    (case a5 => k_is)
    (case l5 => k_is)
    (case c5 => k_is)
    (case k5 => k_is)
    (case a6 => k_is)
    (case l6 => k_is)
    (case c6 => k_is)
    (case k6 => k_is)
    (case a7 => k_is)
    (case l7 => k_is)
    (case c7 => k_is)
    (case k7 => k_is)
    (case a9 => k_is)
    (case l9 => k_is)
    (case c9 => k_is)
    (case k9 => k_is)
    (case a10 => k_is)
    (case l10 => k_is)
    (case c10 => k_is)
    (case k10 => k_is)
    (case a11 => k_is)
    (case l11 => k_is)
    (case c11 => k_is)
    (case k11 => k_is)
    (case a12 => k_is)
    (case l12 => k_is)
    (case c12 => k_is)
    (case k12 => k_is)
    (case a13 => k_is)
    (case l13 => k_is)
    (case c13 => k_is)
    (case k13 => k_is)
    (case a14 => k_is)
    (case l14 => k_is)
    (case c14 => k_is)
    (case k14 => k_is)
    (case a16 => k_is)
    (case l16 => k_is)
    (case c16 => k_is)
    (case k16 => k_is)
    (case a17 => k_is)
    (case l17 => k_is)
    (case c17 => k_is)
    (case k17 => k_is)
    (case a18 => k_is)
    (case l18 => k_is)
    (case c18 => k_is)
    (case k18 => k_is)
    (case a25 => k_is)
    (case l25 => k_is)
    (case c25 => k_is)
    (case k25 => k_is)
    (case a26 => k_is)
    (case l26 => k_is)
    (case c26 => k_is)
    (case k26 => k_is)
    (case a27 => k_is)
    (case l27 => k_is)
    (case c27 => k_is)
    (case k27 => k_is)
    (case a28 => k_is)
    (case l28 => k_is)
    (case c28 => k_is)
    (case k28 => k_is)
    (case a30 => k_is)
    (case l30 => k_is)
    (case c30 => k_is)
    (case k30 => k_is)
    (case a31 => k_is)
    (case l31 => k_is)
    (case c31 => k_is)
    (case k31 => k_is)
    (case a32 => k_is)
    (case l32 => k_is)
    (case c32 => k_is)
    (case k32 => k_is)
    (case a33 => k_is)
    (case l33 => k_is)
    (case c33 => k_is)
    (case k33 => k_is)
    (case a34 => k_is)
    (case l34 => k_is)
    (case c34 => k_is)
    (case k34 => k_is)
    (case a51 => k_is)
    (case l51 => k_is)
    (case c51 => k_is)
    (case k51 => k_is)
    (case a52 => k_is)
    (case l52 => k_is)
    (case c52 => k_is)
    (case k52 => k_is)
    (case a53 => k_is)
    (case l53 => k_is)
    (case c53 => k_is)
    (case k53 => k_is)
    (case a54 => k_is)
    (case l54 => k_is)
    (case c54 => k_is)
    (case k54 => k_is)
    (case a55 => k_is)
    (case l55 => k_is)
    (case c55 => k_is)
    (case k55 => k_is)
    (case a56 => k_is)
    (case l56 => k_is)
    (case c56 => k_is)
    (case k56 => k_is)
    (case a57 => k_is)
    (case l57 => k_is)
    (case c57 => k_is)
    (case k57 => k_is)
    (case a58 => k_is)
    (case l58 => k_is)
    (case c58 => k_is)
    (case k58 => k_is)
    (case a59 => k_is)
    (case l59 => k_is)
    (case c59 => k_is)
    (case k59 => k_is)
    (case a60 => k_is)
    (case l60 => k_is)
    (case c60 => k_is)
    (case k60 => k_is)
    (case a61 => k_is)
    (case l61 => k_is)
    (case c61 => k_is)
    (case k61 => k_is)
    (case a62 => k_is)
    (case l62 => k_is)
    (case c62 => k_is)
    (case k62 => k_is)
    (case a63 => k_is)
    (case l63 => k_is)
    (case c63 => k_is)
    (case k63 => k_is)
    (case a64 => k_is)
    (case l64 => k_is)
    (case c64 => k_is)
    (case k64 => k_is)
    (case a65 => k_is)
    (case l65 => k_is)
    (case c65 => k_is)
    (case k65 => k_is)
    (case a66 => k_is)
    (case l66 => k_is)
    (case c66 => k_is)
    (case k66 => k_is)
    (case a67 => k_is)
    (case l67 => k_is)
    (case c67 => k_is)
    (case k67 => k_is)
    (case a68 => k_is)
    (case l68 => k_is)
    (case c68 => k_is)
    (case k68 => k_is)
    (case a69 => k_is)
    (case l69 => k_is)
    (case c69 => k_is)
    (case k69 => k_is)
    (case a70 => k_is)
    (case l70 => k_is)
    (case c70 => k_is)
    (case k70 => k_is)
    (case a71 => k_is)
    (case l71 => k_is)
    (case c71 => k_is)
    (case k71 => k_is)
    (case a72 => k_is)
    (case l72 => k_is)
    (case c72 => k_is)
    (case k72 => k_is)
    (case a73 => k_is)
    (case l73 => k_is)
    (case c73 => k_is)
    (case k73 => k_is)
    (case a74 => k_is)
    (case l74 => k_is)
    (case c74 => k_is)
    (case k74 => k_is)
    (case a75 => k_is)
    (case l75 => k_is)
    (case c75 => k_is)
    (case k75 => k_is)
    (case a76 => k_is)
    (case l76 => k_is)
    (case c76 => k_is)
    (case k76 => k_is)
    (case a77 => k_is)
    (case l77 => k_is)
    (case c77 => k_is)
    (case k77 => k_is)
    (case a78 => k_is)
    (case l78 => k_is)
    (case c78 => k_is)
    (case k78 => k_is)
    (case a79 => k_is)
    (case l79 => k_is)
    (case c79 => k_is)
    (case k79 => k_is)
    (case a80 => k_is)
    (case l80 => k_is)
    (case c80 => k_is)
    (case k80 => k_is)
    (case a81 => k_is)
    (case l81 => k_is)
    (case c81 => k_is)
    (case k81 => k_is)
    (case a83 => k_is)
    (case l83 => k_is)
    (case c83 => k_is)
    (case k83 => k_is)
    (case a86 => k_is)
    (case l86 => k_is)
    (case c86 => k_is)
    (case k86 => k_is)
    (case a100 => k_is)
    (case i100 => k_is)
    (case l100 => k_is)
    (case c100 => k_is)
    (case k100 => k_is)
    (case pgC => k_is)
    (case hdC => k_is)
    (case poC => k_is)
    (case saC => k_is)
    (case mkC => k_is)
    (case kcC => k_is)
    (case nC0 => k_is)
    (case nC1 => k_is)
    (case nC2 => k_is)
    (case a101 => k_is)
    (case i101 => k_is)
    (case l101 => k_is)
    (case c101 => k_is)
    (case k101 => k_is)
    (case pgI => k_is)
    (case hdI => k_is)
    (case poI => k_is)
    (case saI => k_is)
    (case mkI => k_is)
    (case kcI => k_is)
    (case nI0 => k_is)
    (case nI1 => k_is)
    (case nI2 => k_is)
    (case nI3 => k_is)
    (case nI4 => k_is)
    (case a102 => k_is)
    (case i102 => k_is)
    (case l102 => k_is)
    (case c102 => k_is)
    (case k102 => k_is)
    (case pgR => k_is)
    (case hdR => k_is)
    (case poR => k_is)
    (case saR => k_is)
    (case mkR => k_is)
    (case kcR => k_is)
    (case nR0 => k_is)
    (case v0 => k_is)
    (case v1 => k_is)
    (case v2 => k_is)
    (case v3 => k_is)
    (case v4 => k_is)
    (case v5 => k_is)
    (case v6 => k_is)
    (case v7 => k_is)
    (case v8 => k_is)
    (case v9 => k_is)
    (case v10 => k_is)
    (case v11 => k_is)
    (case v12 => k_is)
    (case v13 => k_is)
    (case v14 => k_is)
    (case v15 => k_is)
    (case v16 => k_is)
    (case v17 => k_is)
    (case b_enumerate => k_is)
    (case b_tuple => k_is)
    (case b_zip => k_is)
    (case b_len => k_is)
    (case b_range => k_is)
    (case b_min => k_is)
    (case b_list => k_is)
    (case b_sum => k_is)
    (case b_reversed => k_is)
    (case gO => k_is)
    (case lO => k_is)
    (case gP => k_is)
    (case lP => k_is)
  case S =>
    intro K H xs a hO hwi hask hx
    cases hx with
    | cons h1 h2 =>
      cases h2
      cases h1 with
      | lst hs ha =>
        have e := L2.ints_dw a.1 _ ha
        subst e
        have q : ((Codec.inLen 0 160 a.1 && a.1.all (Codec.inInt 0 4294967295)) && true) = true := hwi
        rw [Bool.and_true, Bool.and_eq_true] at q
        have pos : ∀ z ∈ a.1, 0 ≤ z := fun z hz => (Codec.inInt_iff.mp (List.all_eq_true.mp q.2 z hz)).1
        obtain ⟨r, e1, fair, r40, due⟩ := OL.due_is (l := a.1) hask pos
        refine ⟨_, r, rfl, by rw [← e1]; exact hs, ⟨fair, r40⟩, fun H' p hp => ?_⟩
        rw [← due] at hp
        exact .lst (L2.SqL.of hp) (L2.dw_ints _)
