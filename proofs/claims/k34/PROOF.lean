
import PyProof.Rows.All
import Wide.All
import OpenK.AllK
import Wide.FinOn
import Lean
import PyProof.EqAt
import PyProof.EqKinds
import PyProof.TupleCall
import PyProof.ZipIter
import KE.KDictList
import PyProof.Rows.TupDisplay
import PySem.SetTable
import PyProof.SetScanFacts
import PyProof.SetKind
import PyProof.FactsAll.tuple_iterator
import PySem.Challenge.RW_threetrees_k34_heights
set_option genSizeOfSpec false
set_option linter.all false
set_option Elab.async false
set_option maxRecDepth 100000
set_option linter.defProp false
def Aa:=@PySem.wpAny_bind
def Ab:=@PySem.wpAny_pure
def Ac:=@if_neg
def Ae:=@if_pos
def Af:=@Array.getElem?_eq_getElem
def Ag:=@PySem.F.type_list_append
def Ah:=@PySem.F.slot_list_append
def Ai:=@Bool.false_ne_true
def Aj:=@List.mem_cons_self
def Ak:=@Array.getD_eq_getD_getElem?
def Al:=@List.mem_append_left
def Am:=@Array.length_toList
def An:=@PySem.PassesOwn.never
def Ao:=@List.filterMap_cons
def Ap:=@Option.map_eq_some_iff
def Aq:=@decide_eq_false
def Ar:=@List.length_cons
def As:=@PySem.isSubtype_type
def Au:=@List.mem_filter
def Av:=@Bool.false_eq_true
def Aw:=@List.mem_of_getElem?
def Ax:=@of_decide_eq_true
def Ay:=@decide_eq_true_eq
def Az:=@List.map_congr_left
def Ba:=@Bool.and_eq_true
def Bb:=@PySem.W.mg_none_of
def Bc:=@decide_eq_true
def Bd:=@List.cons.injEq
def Be:=@PySem.wpAny_newObj_type
def Bf:=@PySem.wpAny_call_entry
def Bg:=@List.idxOf_lt_length_iff
def Bh:=@List.getElem?_set_self
def Bi:=@Nat.le_trans
def Bj:=@PySem.wpAny_callSpecial?_slot
def Bk:=@PySem.wpAny_holding
def Bl:=@List.getElem?_append_left
def Bm:=@PySem.boot_len
def Bn:=@List.mem_of_mem_take
def Bo:=@PySem.call_isinstance
def Bp:=@List.getElem?_append_right
def Bq:=@PySem.Heap.get?_update_self
def Br:=@List.take_succ_eq_append_getElem
def Bs:=@List.length_range
def Bu:=@of_decide_eq_false
def Bv:=@PyProof.Rows.callWith_type1
def Bw:=@PyProof.Rows.slot_tuple_getitem
def Bx:=@List.replicate_succ
def By:=@List.find?_cons
def Bz:=@Array.getElem?_eq_some_iff
def Ca:=@PySem.wpAny_setState_of
def Cb:=@Array.getElem?_eq_none
def Cc:=@List.headD_cons
def Cd:=@List.append_nil
def Ce:=@PySem.Heap.size_push
def Cf:=@List.take_length
def Cg:=@List.length_drop
def Ci:=@Nat.zero_le
def Cj:=@Array.getElem?_toList
def Ck:=@List.flatten_cons
def Cm:=@List.filterMap_map
def Cn:=@List.range_succ
def Co:=@Int.emod_nonneg
def Cp:=@PySem.Heap.SameBut.update
def Cq:=@Nat.le_of_lt
def Cr:=@List.getElem_mem
def Cs:=@List.map_nil
def Ct:=@Nat.lt_succ_of_lt
def Cu:=@PySem.sizeLine_eq
def Cv:=@List.drop_eq_getElem_cons
def Cw:=@Int.emod_lt_of_pos
def Cz:=@Nat.lt_or_ge
def Dc:=@List.length_erase_of_mem
def Dd:=@List.Pairwise.imp_of_mem
def De:=@List.mem_of_mem_drop
def Df:=@decide_eq_false_iff_not
def Dg:=@List.getElem?_replicate
def Dh:=@Bool.eq_iff_iff
def Di:=@List.length_pos_of_mem
def Dj:=@PySem.Heap.get?_update_other
def Dk:=@decide_eq_decide
def Dl:=@List.nodup_range
def Dm:=@List.take_succ
def Dn:=@List.take_append_of_le_length
def Dq:=@List.take_of_length_le
def Dr:=@Prod.mk.injEq
def Ds:=@List.length_replicate
def Dt:=@List.mem_reverse
def Du:=@List.length_pos_iff
def Dv:=@List.filter_append
def Dx:=@Nat.le_of_lt_succ
def Dy:=@List.perm_append_comm
def Dz:=@PySem.W.mg_of
def Eb:=@List.length_set
def Ec:=@List.pairwise_append
def Ed:=@List.zip_cons_cons
def Ee:=@Bool.or_eq_true
abbrev Ef:=PySem.Value->PySem.Shared->Prop
abbrev Eg:=List (PySem.Addr×PySem.Obj)
open PySem.W (Frag)
def Aa0:=@List.mem_append
def Aa1:=@List.mem_cons
def Aa2:=@List.getElem?_eq_getElem
def Aa3:=@List.length_map
def Aa4:=@List.nodup_append
def Aa5:=@List.nodup_cons
def Aa6:=@PySem.Heap.get?_push_of_some
def Aa7:=@Nat.le_refl
def Aa8:=@List.mem_map
def Aa9:=@List.getElem?_map
def Ab0:=@List.getElem?_eq_some_iff
def Ab1:=@PySem.F.plainAttrs_list
def Ab2:=@List.size_toArray
def Ab3:=@PySem.Heap.lt_size
def Ab4:=@Option.some.inj
def Ab5:=@List.mem_range
def Ab6:=@List.cons_append
def Ab7:=@List.length_append
def Ab8:=@Nat.lt_of_lt_of_le
def Ab9:=@Nat.ne_of_lt
def Ac0:=@List.getD_eq_getElem?_getD
def Ac1:=@List.mem_append_right
def Ac2:=@List.not_mem_nil
def Ac3:=@PySem.Heap.get?_push_size
def Ac4:=@List.idxOf_lt_length_of_mem
def Ac5:=@List.eq_nil_or_concat
def Ac6:=@List.nodup_iff_pairwise_ne
def Ac7:=@List.map_cons
def Ac8:=@Int.toNat_natCast
def Ac9:=@List.all_eq_true
def Ad0:=@List.getElem?_set_ne
def Ad1:=@List.length_take
def Ad2:=@List.map_append
def Ad3:=@List.take_append_drop
def Ad4:=@List.mem_cons_of_mem
def Ad5:=@List.append_of_mem
def Ad6:=@List.getElem?_eq_none
def Ad7:=@List.append_assoc
def Ad8:=@List.mem_singleton
def Ad9:=@Nat.lt_irrefl
def Ae0:=@List.pairwise_map
def Ae1:=@List.length_reverse
def Ae2:=@List.map_map
namespace L2
open PySem PySem.Spec PyProof.Rows
abbrev Key:=Sum Int Str
def dC6:Key->Value->Bool
 | .inl k,v=>Value.isInt k v
 | .inr x,v=>Value.isStrOf x v
def dV0 (w:World):Key->Int
 | .inl k=>hashInt k
 | .inr x=>hashStr w x
theorem K1:∀{k:Key} {v:Value},dC6 k v=true->(∃i t,k=Sum.inl i/\v=Value.int i t)\/(∃x t,k=Sum.inr x/\v=Value.str x t)
 | .inl i,v,h=>by
  obtain⟨t,e⟩:=Value.isInt_shape (k:=i) (v:=v) h;exact .inl ⟨i,t,rfl,e⟩
 | .inr x,v,h=>by
  obtain⟨t,e⟩:=Value.isStrOf_shape (x:=x) (v:=v) h;exact .inr ⟨x,t,rfl,e⟩
theorem dI8 (a b:Int):decide ((Sum.inl a:Key)=Sum.inl b)=(a==b):=by
 by_cases e:a=b
 .subst e;simp
 .have h:¬(Sum.inl a:Key)=Sum.inl b:=λq=>e (Sum.inl.inj q)
  rw[Aq h];exact(beq_eq_false_iff_ne.mpr e).symm
theorem dK2 (a b:Str):decide ((Sum.inr a:Key)=Sum.inr b)=decide (a=b):=by
 by_cases e:a=b
 .subst e;simp
 .have h:¬(Sum.inr a:Key)=Sum.inr b:=λq=>e (Sum.inr.inj q)
  rw[Aq h,Aq e]
theorem dN3 (a:Int)(b:Str):decide ((Sum.inl a:Key)=Sum.inr b)=false:=Aq (λq=>nomatch q)
theorem dH6 (a:Str)(b:Int):decide ((Sum.inr a:Key)=Sum.inl b)=false:=Aq (λq=>nomatch q)
def bV5 (prog:Program)(w:World):PySem.KeyKind prog w Key where
 is:=dC6
 hash:=dV0 w
 inj:=λv a b ha hb=>by
  rcases K1 ha with⟨i,t,rfl,rfl⟩ | ⟨x,t,rfl,rfl⟩
  .rcases K1 hb with⟨j,u,rfl,e⟩ | ⟨y,u,rfl,e⟩
   .injection e with e1 _;rw[e1]
   .exact nomatch e
  .rcases K1 hb with⟨j,u,rfl,e⟩ | ⟨y,u,rfl,e⟩
   .exact nomatch e
   .injection e with e1 _;rw[e1]
 byValue:=λk v h=>by
  rcases K1 h with⟨i,t,rfl,rfl⟩ | ⟨x,t,rfl,rfl⟩ <;> rfl
 pyHash:=λhv h=>by
  rcases K1 hv with⟨i,t,rfl,rfl⟩ | ⟨x,t,rfl,rfl⟩
  .exact wpAny_pyHash_int h
  .exact wpAny_pyHash_str h
 eqBool:=λhu hv h=>by
  rcases K1 hu with⟨i,t,rfl,rfl⟩ | ⟨x,t,rfl,rfl⟩
  .rcases K1 hv with⟨j,u,rfl,rfl⟩ | ⟨y,u,rfl,rfl⟩
   .rw[dI8]at h;exact wpAny_eqBool_int h
   .rw[dN3]at h;exact SeqAt.EqAt.int_str i t y u _ _ _ _ h
  .rcases K1 hv with⟨j,u,rfl,rfl⟩ | ⟨y,u,rfl,rfl⟩
   .rw[dH6]at h;exact SeqAt.EqAt.str_int x t j u _ _ _ _ h
   .rw[dK2]at h;exact wpAny_eqBool_str h
 «strs» := λk x t v h=>by
  rcases K1 h with⟨i,u,rfl,e⟩ | ⟨y,u,rfl,e⟩
  .exact nomatch e
  .injection e with e1 _
   subst e1;cases v <;> rfl
inductive V where
 | non | bl (b:Bool) | int (i:Int) | str (x:Str) | byt (b:Array UInt8) | flt (b:UInt64) | ref (a:Addr) | ty (n:String)
 deriving DecidableEq
def RelV:V->Value->Prop
 | .non,u=>u=Value.none
 | .bl b,u=>u=Value.bool b
 | .int i,u=>∃t,u=Value.int i t
 | .str x,u=>∃t,u=Value.str x t
 | .byt b,u=>∃t,u=Value.bytes b t
 | .flt b,u=>∃t,u=Value.float b t
 | .ref a,u=>u=Value.ref a
 | .ty n,u=>u=Value.type n
abbrev Vals:List V->List Value->Prop:=Paired RelV
theorem Vals.length {xs:List V}{us:List Value}(r:Vals xs us):xs.length=us.length:=Paired.length r
theorem Vals.get:∀{xs:List V} {us:List Value} {i:Nat} {x:V},Vals xs us->xs[i]? = some x->∃u,us[i]? = some u/\RelV x u
 | _,_,_,_,.nil,e=>by simp at e
 | _,_,0,_,.cons r _,e=>by simp at e;subst e;exact⟨_,rfl,r⟩
 | _,_,i+1,x,.cons _ t,e=>by
  obtain⟨u,h1,h2⟩:=Vals.get (i:=i) (x:=x) t (by simpa using e)
  exact⟨u,by simpa using h1,h2⟩
theorem Vals.set (r:RelV x u):∀{xs:List V} {us:List Value} (i:Nat),Vals xs us->Vals (xs.set i x) (us.set i u)
 | _,_,_,.nil=>.nil
 | _,_,0,.cons _ t=>.cons r t
 | _,_,i+1,.cons q t=>.cons q (Vals.set r i t)
theorem Vals.append:∀{xs ys:List V} {us ws:List Value},Vals xs us->Vals ys ws->Vals (xs++ys) (us++ws)
 | _,_,_,_,.nil,s=>s
 | _,_,_,_,.cons r t,s=>.cons r (Vals.append t s)
theorem Vals.take:∀{xs:List V} {us:List Value} (n:Nat),Vals xs us->Vals (xs.take n) (us.take n)
 | _,_,0,_=>.nil
 | _,_,_+1,.nil=>.nil
 | _,_,n+1,.cons r t=>.cons r (Vals.take n t)
theorem Vals.drop:∀{xs:List V} {us:List Value} (n:Nat),Vals xs us->Vals (xs.drop n) (us.drop n)
 | _,_,0,r=>r
 | _,_,_+1,.nil=>.nil
 | _,_,n+1,.cons _ t=>Vals.drop n t
def cE5:Option V->Option Value->Prop
 | some v,some u=>RelV v u
 | none,none=>True
 | _,_=>False
def KV {κ:Type}:List (κ×V)->List (κ×Value)->Prop:=Paired λ(p:κ×V) (q:κ×Value)=>p.1=q.1/\RelV p.2 q.2
def kV:Key->V
 | .inl i=>.int i
 | .inr x=>.str x
inductive HO where
 /-- a list -/
 | lst (xs:List V)
 /-- a tuple (never changes) -/
 | tup (xs:List V)
 /-- a dict whose keys are ints and texts;one whose keys are tuples of ints and texts (the empty one is both) -/
 | dK (kvs:List (Key×V)) | dT (kvs:List (List Key×V))
 /-- a set of ints: its members,its size -/
 | set (S:Int->Bool) (n:Nat)
 /-- an instance of the class at C,its dict at dx,its attributes -/
 | ins (C dx:Addr) (fs:List (Str×V))
 /-- the dict of the instance at x -/
 | own (x:Addr)
 /-- the dict of an exception -/
 | xd (fs:List (Str×V))
 /-- a bound method,f of x -/
 | met (f x:Addr)
 /-- a range object lo,lo+1,.. below hi -/
 | rng (lo hi:Int)
 /-- a thing that is known to the object (the script;a dict while a loop walks it): read,never written while it is so -/
 | frz (o:Obj) (u:HO)
 /-- a code object's table -/
 | tbl (ps:Array Value)
 /-- any other thing,by what is true of its one object (a def of one's own: SetO a S n:=HO.ext λh=>..) -/
 | ext (φ:Heap->Prop)
abbrev Hp:=Addr->Option HO
def upd (H:Hp)(a:Addr)(o:HO):Hp:=λb=>if b=a then some o else H b
theorem B3:upd H a o a=some o:=by unfold upd;rw[Ae rfl]
theorem B0 (h:b≠a):upd H a o b=H b:=by unfold upd;rw[Ac h]
theorem E2 {H:Hp}{a b:Addr}{o:HO}(h:H a=some o)(h':H b=none):a≠b:=by
 intro e;subst e;rw[h]at h';cases h'
def Tup0 (h:Heap)(a:Addr)(items:Array Value):Prop:=∃o,h.get? a=some o/\o.cls=.type "tuple" /\ (∃n,o.data=.seq items n)/\o.dict=none
theorem Tup0.tup (p:Tup0 h a items):IsTup h a items:=p.imp λ_ q=>⟨q.1,q.2.1,q.2.2.1⟩
theorem Tup0.nw (h:Heap)(items:Array Value)(n:Nat):Tup0 (h.push {cls:=.type "tuple",data:=.seq items n}) h.objs.size items:=⟨_,Ac3 _ rfl,rfl,⟨n,rfl⟩,rfl⟩
section
variable (P:Program)(w:World)
def ObjOk (H:Hp)(h:Heap)(a:Addr):HO->Prop
 | .lst xs=>xs.length<=sizeLine/\∃(its:List Value) (n:Nat),Vals xs its/\h.get? a=some {cls:=.type "list",data:=.seq its.toArray n}
 | .tup xs=>xs.length<=sizeLine/\∃its:List Value,Vals xs its/\Tup0 h a its.toArray
 | .dK kvs=>kvs.length<=sizeLine/\(a==sysModules)=false/\∃vs,KV kvs vs/\h.DictOf (bV5 P w) a vs
 | .dT kvs=>kvs.length<=sizeLine/\(a==sysModules)=false/\∃xs:List (List Key×Addr×Value),
   Paired (λ(p:List Key×V) (q:List Key×Addr×Value)=>p.1=q.1/\H q.2.1=some (.tup (p.1.map kV))/\RelV p.2 q.2.2) kvs xs /\
   ∃o es ep,h.get? a=some o/\o.ExactDict/\o.data=.dict es ep/\es.toList=xs.map (entryOfKey (tupleKind (bV5 P w)))/\(xs.map (·.1)).Nodup
 | .set S n=>h.SetOf (intKind P w) a S n
 | .ins C dx fs=>H dx=some (.own a)/\fs.length<=1000/\dx≠a/\h.get? a=some (PySem.W.instObj C dx) /\
   ∃mA,h.Ns1 dx mA/\(∀f,cE5 (fs.lookup f) (mA f))/\PySem.Within mA (fs.map (·.1))
 | .own _=>∃o,h.get? a=some o
 | .xd fs=>∃mA,h.Ns1 a mA/\∀f,cE5 (fs.lookup f) (mA f)
 | .rng lo hi=>∃t u v,h.get? a=some {cls:=.type "range",data:=.fields #[.int lo t,.int hi u,.int 1 v]}
 | .frz o u=>h.get? a=some o/\ObjOk H h a u
 | .tbl ps=>h.get? a=some {cls:=.none,data:=.fields ps}
 | .met f x=>h.get? a=some (PySem.W.methodObj (.ref f) (.ref x))
 | .ext φ => φ h/\(∃o,h.get? a=some o)/\∀h1 h2:Heap,φ h1->(∀o,h1.get? a=some o->h2.get? a=some o)->φ h2
def HOk (H:Hp)(h:Heap):Prop:=∀a o,H a=some o->ObjOk P w H h a o
end
section
variable {P:Program}{w:World}{H H':Hp}{h h':Heap}{a:Addr}{o:HO}
theorem ObjOk.lt (x:ObjOk P w H h a o):a<h.objs.size:=by
 cases o with
 | lst xs=>obtain⟨_,_,_,_,e⟩:=x;exact Ab3 e
 | tup xs=>obtain⟨_,_,_,p⟩:=x;exact p.tup.lt
 | dK kvs=>obtain⟨_,_,_,_,o,_,_,e,_⟩:=x;exact Ab3 e
 | dT kvs=>obtain⟨_,_,_,_,o,_,_,e,_⟩:=x;exact Ab3 e
 | set S n=>obtain⟨o,_,_,_,e,_⟩:=x;exact Ab3 e
 | ins C dx fs=>obtain⟨_,_,_,e,_⟩:=x;exact Ab3 e
 | own y=>obtain⟨_,e⟩:=x;exact Ab3 e
 | xd fs=>obtain⟨_,⟨_,_,_,e,_⟩,_⟩:=x;exact Ab3 e
 | rng lo hi=>obtain⟨_,_,_,e⟩:=x;exact Ab3 e
 | frz ob u=>obtain⟨e,_⟩:=x;exact Ab3 e
 | tbl ps=>exact Ab3 (show h.get? a=some _ from x)
 | met f y=>exact Ab3 (show h.get? a=some _ from x)
 | ext φ=>obtain⟨_,⟨_,e⟩,_⟩:=x;exact Ab3 e
theorem Paired.mapP:∀{l₁:List α} {l₂:List β},Paired F l₁ l₂->(∀a b,F a b->G a b)->Paired G l₁ l₂
 | _,_,.nil,_=>.nil
 | _,_,.cons r t,f=>.cons (f _ _ r) (Paired.mapP t f)
theorem ObjOk.stay (x:ObjOk P w H h a o)(k:∀b u,(b=a\/H b=some (.own a))->h.get? b=some u->h'.get? b=some u)
  (ho:∀b,H b=some (.own a)->H' b=some (.own a)) (J:∀b xs,H b=some (.tup xs)->H' b=some (.tup xs)):ObjOk P w H' h' a o:=by
 induction o with
 | lst xs=>obtain⟨z,its,n,r,e⟩:=x;exact⟨z,its,n,r,k _ _ (.inl rfl) e⟩
 | tup xs=>obtain⟨z,its,r,ob,e,c⟩:=x;exact⟨z,its,r,ob,k _ _ (.inl rfl) e,c⟩
 | dK kvs=>obtain⟨z,y,vs,r,ob,m,s,e,c⟩:=x;exact⟨z,y,vs,r,ob,m,s,k _ _ (.inl rfl) e,c⟩
 | dT kvs=>
  obtain⟨z,y,xs,r,ob,m,s,e,c⟩:=x;exact⟨z,y,xs,Paired.mapP r λp q z=>⟨z.1,J _ _ z.2.1,z.2.2⟩,ob,m,s,k _ _ (.inl rfl) e,c⟩
 | set S n=>obtain⟨ob,m,s,t,e,c⟩:=x;exact⟨ob,m,s,t,k _ _ (.inl rfl) e,c⟩
 | ins C dx fs=>
  obtain⟨d,z,ne,e,Y,⟨X,m,s,U,c⟩,r⟩:=x;exact⟨ho _ d,z,ne,k _ _ (.inl rfl) e,Y,⟨X,m,s,k _ _ (.inr d) U,c⟩,r⟩
 | own y=>obtain⟨ob,e⟩:=x;exact⟨ob,k _ _ (.inl rfl) e⟩
 | xd fs=>obtain⟨Y,⟨X,m,s,e,c⟩,r⟩:=x;exact⟨Y,⟨X,m,s,k _ _ (.inl rfl) e,c⟩,r⟩
 | rng lo hi=>obtain⟨t,u,v,e⟩:=x;exact⟨t,u,v,k _ _ (.inl rfl) e⟩
 | frz ob u M=>obtain⟨e,q⟩:=x;exact⟨k _ _ (.inl rfl) e,M q⟩
 | tbl ps=>
  have e:h.get? a=some {cls:=.none,data:=.fields ps}:=x
  show h'.get? a=some {cls:=.none,data:=.fields ps}
  exact k a _ (.inl rfl) e
 | met f y=>
  have e:h.get? a=some (PySem.W.methodObj (.ref f) (.ref y)):=x
  show h'.get? a=some (PySem.W.methodObj (.ref f) (.ref y))
  exact k a _ (.inl rfl) e
 | ext φ=>obtain⟨p,⟨o,e⟩,st⟩:=x;exact⟨st _ _ p λo q=>k _ _ (.inl rfl) q,⟨o,k _ _ (.inl rfl) e⟩,st⟩
theorem HOk.lt (x:HOk P w H h)(e:H a=some o):a<h.objs.size:=(x a o e).lt
theorem HOk.fresh (x:HOk P w H h)(e:h.objs.size<=a):H a=none:=by
 cases q:H a with
 | none=>rfl
 | some u=>exact absurd (Ab8 (x.lt q) e) (Ad9 _)
theorem HOk.kept (x:HOk P w H h)(k:∀b u,h.get? b=some u->h'.get? b=some u):HOk P w H h':=λa o e=>
 (x a o e).stay (λb u _ q=>k b u q) (λ_ q=>q) λ_ _ q=>q
theorem HOk.laid (x:HOk P w H h)(k:∀b u,h.get? b=some u->h'.get? b=some u)(hp:h.objs.size<=a)(z:ObjOk P w (upd H a o) h' a o):HOk P w (upd H a o) h':=λb u e=>by
 have m:=x.fresh hp
 by_cases s:b=a
 .subst s;rw[B3]at e;cases e;exact z
 .rw[B0 s]at e;exact(x b u e).stay (λc v _ q=>k c v q) (λc q=>by rw[B0 (E2 q m)];exact q) λc xs q=>by rw[B0 (E2 q m)];exact q
end
def Rd (H:Hp)(a:Addr)(u:HO):Prop:=H a=some u\/∃o,H a=some (.frz o u)
theorem Rd.ok {P:Program}{w:World}{H:Hp}{h:Heap}{a:Addr}{u:HO}(r:Rd H a u)(x:HOk P w H h):ObjOk P w H h a u:=by
 rcases r with r | ⟨o,r⟩
 .exact x a u r
 .obtain⟨_,q⟩:=x a _ r;exact q
def Mut:Option HO->Prop
 | some (.lst _)=>True
 | some (.dK _)=>True
 | some (.dT _)=>True
 | some (.set _ _)=>True
 | some (.ins _ _ _)=>True
 | some (.ext _)=>True
 | _=>False
section
variable {P:Program}{w:World}{H:Hp}{h h':Heap}{x e:Addr}{o':HO}
theorem HOk.write (ok:HOk P w H h)(U:Mut (H x))(he:e=x\/H e=some (.own x))(k:∀b u,b≠e->h.get? b=some u->h'.get? b=some u)(J:∃u,h'.get? e=some u)
  (M:ObjOk P w (upd H x o') h' x o'):HOk P w (upd H x o') h':=λb u q=>by
 have m:∀c y,H c=some (.own y)->c≠x:=λc y r z=>by subst z;rw[r]at U;exact U
 have Y:∀c xs,H c=some (.tup xs)->c≠x:=λc xs r z=>by subst z;rw[r]at U;exact U
 by_cases X:b=x
 .subst X;rw[B3]at q;cases q;exact M
 .rw[B0 X]at q;by_cases s:b=e
  .have N:H b=some (.own x):=by
    rcases he with z | z
    .exact absurd (s.trans z) X
    .rw[s];exact z
   rw[q]at N;cases N;obtain⟨v,R⟩:=J;exact⟨v,by rw[s];exact R⟩
  .refine(ok b u q).stay (λc v hc r=>k c v ?_ r) (λc r=>by rw[B0 (m c b r)];exact r) λc xs r=>by rw[B0 (Y c xs r)];exact r
   rcases hc with rfl | hc
   .exact s
   .rintro rfl;rcases he with z | z
    .exact m c b hc z
    .rw[hc]at z;cases z;exact X rfl
end
structure Un (fs ex:List Addr)(H H':Hp)(h h':Heap):Prop where
 keep:∀b o,h.get? b=some o->H b=none->b∉fs->b∉ex->h'.get? b=some o
 slot:∀b o,h.get? b=some o->H b=none->b∈fs->b∉ex->∃sl,h'.get? b=some {o with slots:=sl}
 free:∀b o,h.get? b=some o->H b=none->b∉ex->H' b=none
 there:∀b o,h.get? b=some o->b∉ex->∃o',h'.get? b=some o'
 tups:∀b xs,H b=some (.tup xs)->H' b=some (.tup xs)
 frzs:∀b o u,H b=some (.frz o u)->H' b=some (.frz o u)
 tbls:∀b ps,H b=some (.tbl ps)->∃more,H' b=some (.tbl (ps++more))
section
variable {fs fs' ex ex':List Addr}{H H1 H2:Hp}{h h1 h2 h':Heap}{a x e:Addr}{o:HO}
theorem Un.any (u:Un fs ex H H1 h h1)(q:h.get? b=some ob)(n:H b=none)(z:b∉ex):∃sl,h1.get? b=some {ob with slots:=sl}:=by
 by_cases w:b∈fs
 .exact u.slot b ob q n w z
 .exact⟨ob.slots,u.keep b ob q n w z⟩
theorem Un.kept (k:∀b u,h.get? b=some u->h'.get? b=some u):Un fs ex H H h h':=
 ⟨λb ob q _ _ _=>k b ob q,λb ob q _ _ _=>⟨ob.slots,k b ob q⟩,λ_ _ _ n _=>n,λb ob q _=>⟨ob,k b ob q⟩,λ_ _ q=>q,λ_ _ _ q=>q,λ_ ps q=>⟨#[],by rw[q];simp⟩⟩
theorem Un.refl:Un fs ex H H h h:=Un.kept λ_ _ q=>q
theorem Un.laid (k:∀b u,h.get? b=some u->h'.get? b=some u)(hp:h.objs.size<=a)(w:H a=none):Un fs ex H (upd H a o) h h' where
 keep:=λb u q _ _ _=>k b u q
 slot:=λb u q _ _ _=>⟨u.slots,k b u q⟩
 free:=λb u q n _=>by rw[B0 (Ab9 (Ab8 (Ab3 q) hp))];exact n
 there:=λb u q _=>⟨u,k b u q⟩
 tups:=λb xs q=>by rw[B0 (E2 q w)];exact q
 frzs:=λb u xs q=>by rw[B0 (E2 q w)];exact q
 tbls:=λb ps q=>⟨#[],by rw[B0 (E2 q w),q];simp⟩
theorem Un.write (s:Mut (H x))(he:e=x\/H e=some (.own x))(k:∀b u,b≠e->h.get? b=some u->h'.get? b=some u)(m:∃u,h'.get? e=some u):Un fs ex H (upd H x o) h h':=by
 have U:∀b,H b=none->b≠x:=λb n z=>by subst z;rw[n]at s;exact s
 have X:∀b,H b=none->b≠e:=λb n z=>by
  subst z;rcases he with r | r
  .exact U b n r
  .rw[n]at r;cases r
 have Y:∀b u,H b=some u->¬Mut (some u)->b≠x:=λb u q nm z=>by subst z;rw[q]at s;exact nm s
 refine⟨λb u q n _ _=>k b u (X b n) q,λb u q n _ _=>⟨u.slots,k b u (X b n) q⟩,λb u q n _=>by rw[B0 (U b n)];exact n,λb u q _=>?_,
  λb xs q=>by rw[B0 (Y b _ q λz=>z)];exact q,λb u xs q=>by rw[B0 (Y b _ q λz=>z)];exact q,λb ps q=>⟨#[],by rw[B0 (Y b _ q λz=>z),q];simp⟩⟩
 by_cases w:b=e
 .subst w;exact m
 .exact⟨u,k b u w q⟩
end
def trk (h:Heap)(H:Hp):List Addr:=(List.range h.objs.size).filter λa=>(H a).isSome
def bF0 (h:Heap)(H:Hp):Heap:=PySem.W.hideAll h (trk h H)
theorem cE3 (h:Heap)(H:Hp):(bF0 h H).objs.size=h.objs.size:=PySem.W.hideAll_size _ _
theorem cJ3 (e:h.get? b=some o)(n:H b=none):(bF0 h H).get? b=some o:=
 PySem.W.hideAll_get _ e λw=>by
  have q:(H b).isSome=true:=(Au.mp w).2
  rw[n]at q;simp at q
theorem cV4 (e:(bF0 h H).get? b=some o):h.get? b=some o/\H b=none:=by
 have e':h.get? b=some o:=PySem.W.of_hideAll (trk h H) e
 refine⟨e',?_⟩;cases q:H b with
 | none=>rfl
 | some x=>
  have w:b∈trk h H:=Au.mpr ⟨Ab5.mpr (Ab3 e'),by simp[q]⟩
  have z:(bF0 h H).get? b=none:=PySem.W.hideAll_none (trk h H) w
  rw[z]at e;cases e
def bH6 (g h:Heap)(L:Addr):List (Addr×Obj):=(List.range h.objs.size).filterMap λa=>if a=L\/(g.get? a).isSome=true then none else(h.get? a).map λo=>(a,o)
theorem P7 (h1:a≠L)(w:g.get? a=none)(e:h.get? a=some o):(a,o)∈bH6 g h L:=
 List.mem_filterMap.mpr ⟨a,Ab5.mpr (Ab3 e),by simp[h1,w,e]⟩
theorem aR7 (hp:p∈bH6 g h L):p.1≠L/\g.get? p.1=none/\h.get? p.1=some p.2:=by
 obtain⟨b,_,e⟩:=List.mem_filterMap.mp hp;split at e
 .cases e
 .rename_i w;cases q:h.get? b with
  | none=>rw[q]at e;simp at e
  | some u=>
   rw[q]at e;simp only[Option.map_some,Option.some.injEq]at e;subst e;refine⟨λz=>w (.inl z),?_,q⟩
   show g.get? b=none
   cases r:g.get? b with
   | none=>rfl
   | some v=>exact(w (.inr (by simp[r]))).elim
theorem bM8:News g L h (bH6 g h L):=λp hp=>let ⟨a,b,c⟩:=aR7 hp;⟨c,a,b⟩
structure Mod (K:Frag)(mg:Str->Option Value)(base:Heap):Prop where
 kin:K.In base
 glob:base.Ns mainGlobals mg
 blt:∃mb,base.Ns builtinsNs mb/\∀x:Str,x≠"__name__" -> mb x=bootBuiltins x
 nolimit:base.NoLimit
structure Cx where
 prog:Program
 w:World
 K:Frag
 mg:Str->Option Value
 base:Heap
 A:Around
 N:List Str
 s₀:Shared
 H₀:Hp
 env:Env
 outer:List Env
 stack:List Env
 ex:List Addr
 fn:Str->Bool
 calm:Bool
 pn:List (Addr×Obj)
 xe:Value->Shared->Prop
def frs (l:List Env):List Addr:=l.filterMap (·.frame)
abbrev Cx.fs (X:Cx):List Addr:=frs X.outer
def Vis (sc:Scope)(x:Str):Prop:=sc.names.lookup x=some .local\/sc.names.lookup x=some .cell\/sc.names.lookup x=some .free
def Loc (sc:Scope)(x:Str):Prop:=sc.names.lookup x=some .local\/sc.names.lookup x=some .cell
def dV5 (env:Env)(h:Heap)(m:Str->Option Value)(x:Str)(u:Value):Prop:=
 (env.kindOf x=some .local/\m x=some u)\/((env.kindOf x=some .cell\/env.kindOf x=some .free)/\∃c,env.cells.lookup x=some c/\h.IsCell c (some u))
structure Cx.Ok (X:Cx):Prop where
 mod:Mod X.K X.mg X.base
 kind:X.env.scope.kind=.function
 glob:X.env.globals=mainGlobals
 blt:X.env.builtins=builtinsNs
 above:X.s₀.heap.objs.size<=X.env.locals
 inj:∀x y c,X.env.cells.lookup x=some c->X.env.cells.lookup y=some c->x=y
 has:∀x,(X.env.kindOf x=some .cell\/X.env.kindOf x=some .free)->∃c,X.env.cells.lookup x=some c
 cab:∀x c,X.fn x=true->X.env.cells.lookup x=some c->X.s₀.heap.objs.size<=c
 hd:X.calm=true->X.A.handled=none
 frames:X.A.frames=some X.stack
 stk:X.stack=X.outer\/(X.stack=X.env::X.outer/\X.env.frame=some X.env.locals)
 exf:∀b∈X.ex,b≠X.env.locals/\∀x c,X.env.cells.lookup x=some c->c≠b
 bs:∀b o,X.base.get? b=some o->X.s₀.heap.get? b=some o/\X.H₀ b=none
 bsz:X.base.objs.size<=X.s₀.heap.objs.size
 noex:∀b o,X.base.get? b=some o->b∉X.ex
 exfs:∀b∈X.ex,b∉X.fs
 funs:X.s₀.heap.FunFrames X.base X.outer
 frf:∀b∈X.fs,X.H₀ b=none
structure Inv (X:Cx)(aA:Eg)(σ:List (Option V))(H:Hp)(s:Shared):Prop where
 ok:X.Ok
 os:s.os=X.s₀.os
 bare:AllBare s.gens
 base:Un X.fs X.ex X.H₀ H X.s₀.heap s.heap
 loc:∃m,s.heap.Ns X.env.locals m/\∀(i:Nat) (x:Str) (v:V),X.N[i]? = some x->σ[i]? = some (some v)->Vis X.env.scope x->∃u,RelV v u/\dV5 X.env s.heap m x u
 cell:∀x c,X.env.cells.lookup x=some c->∃v,s.heap.IsCell c v
 free:H X.env.locals=none
 freeC:∀x c,X.env.cells.lookup x=some c->H c=none
 pin:∀p∈X.pn++aA,s.heap.get? p.1=some p.2/\H p.1=none/\p.1≠X.env.locals/\p.1∉X.fs/\∀v,p.2.data≠.cell v
 hok:HOk X.prog X.w H s.heap
 len:σ.length=X.N.length
section
variable {X:Cx}{aA:Eg}{σ:List (Option V)}{H H':Hp}{s:Shared}{h':Heap}
theorem Cx.Ok.nofr (ok:X.Ok)(e:X.base.get? b=some o):b∉X.fs:=λw=>by
 have:=(ok.funs.mem w).1
 rw[e]at this;cases this
theorem Inv.bs (I:Inv X aA σ H s):∀b o,X.base.get? b=some o->s.heap.get? b=some o/\H b=none:=λb o e=>
 ⟨I.base.keep b o (I.ok.bs b o e).1 (I.ok.bs b o e).2 (I.ok.nofr e) (I.ok.noex b o e),I.base.free b o (I.ok.bs b o e).1 (I.ok.bs b o e).2 (I.ok.noex b o e)⟩
theorem Inv.bk (I:Inv X aA σ H s):∀b o,X.base.get? b=some o->s.heap.get? b=some o:=λb o e=>(I.bs b o e).1
theorem Inv.mod (I:Inv X aA σ H s):Mod X.K X.mg X.base:=I.ok.mod
theorem Inv.kIn (I:Inv X aA σ H s):X.K.In s.heap:=I.ok.mod.kin.keeps I.bk
theorem Inv.lt (I:Inv X aA σ H s):X.env.locals<s.heap.objs.size:=let ⟨_,e,_⟩:=I.loc;e.lt
theorem Inv.sz (I:Inv X aA σ H s):X.s₀.heap.objs.size<=s.heap.objs.size:=Bi I.ok.above (Cq I.lt)
theorem Inv.nofs (I:Inv X aA σ H s)(h:s.heap.objs.size<=a):a∉X.fs:=λe=>by
 obtain⟨_,o,ho,_⟩:=I.ok.funs.mem e;exact absurd (Ab8 (Ab3 ho) (Bi I.sz h)) (Ad9 _)
theorem Inv.cne (I:Inv X aA σ H s):∀x c,X.env.cells.lookup x=some c->c≠X.env.locals:=λx c e z=>by
 obtain⟨v,o,ho,U⟩:=I.cell x c e;obtain⟨m,⟨N,M,J,Y,w,_⟩,_⟩:=I.loc;rw[z,Y]at ho;cases ho;rw[w]at U;cases U
theorem Inv.funs (I:Inv X aA σ H s):s.heap.FunFrames X.base X.outer:=by
 have all:∀(l:List Env),(∀b∈frs l,b∈X.fs)->X.s₀.heap.FunFrames X.base l->s.heap.FunFrames X.base l:=by
  intro l;induction l with
  | nil=>intro _ _;trivial
  | cons J r D=>
   intro U R;obtain⟨N,⟨L,o,Y,Q,ho,M⟩,hr⟩:=R;have w:L∈X.fs:=U L (by unfold frs;rw[Ao,Y];exact Aj)
   obtain⟨F,e⟩:=I.base.slot L o ho (I.ok.frf L w) w λz=>I.ok.exfs L z w
   exact⟨N,⟨L,_,Y,Q,e,M⟩,D (λb m=>U b (by unfold frs;rw[Ao,Y];exact Ad4 _ m)) hr⟩
 exact all X.outer (λ_ m=>m) I.ok.funs
theorem Inv.stack (I:Inv X aA σ H s):s.heap.FunFrames X.base X.stack:=by
 rcases I.ok.stk with e | ⟨e,w⟩
 .rw[e];exact I.funs
 .rw[e];obtain⟨m,z,_⟩:=I.loc;refine .cons (by rw[I.ok.kind];decide) w z ?_ I.funs
  exact Heap.get?_none_of_le (Bi I.ok.bsz I.ok.above)
theorem Inv.stkSub (I:Inv X aA σ H s):∀b∈frs X.stack,b∈X.env.locals::X.fs:=λb w=>by
 rcases I.ok.stk with e | ⟨e,z⟩
 .rw[e]at w;exact Ad4 _ w
 .rw[e]at w;unfold frs at w;rw[Ao,z]at w;exact w
theorem Inv.stkFree (I:Inv X aA σ H s):∀b∈frs X.stack,H b=none:=λb hb=>by
 rcases Aa1.mp (I.stkSub b hb) with e | hb
 .rw[e];exact I.free
 .obtain⟨_,o,ho,_⟩:=I.ok.funs.mem hb;exact I.base.free b o ho (I.ok.frf b hb) λz=>I.ok.exfs b z hb
theorem Inv.step {g':Array GenState}{t':Nat}{d':Drawn}{ch:List Addr}(I:Inv X aA σ H s)
  (M:∀b∈ch,(b∈X.ex\/X.s₀.heap.objs.size<=b)/\b≠X.env.locals/\(∀x c,X.env.cells.lookup x=some c->c≠b)/\∀p∈X.pn++aA,p.1≠b)
  (keep:∀b o,b≠X.env.locals->b∉X.fs->b∉ch->s.heap.get? b=some o->H b=none->h'.get? b=some o)
  (slot:∀b o,b≠X.env.locals->b∈X.fs->b∉ch->s.heap.get? b=some o->H b=none->∃sl,h'.get? b=some {o with slots:=sl}) (U:∀b o,b∉ch->s.heap.get? b=some o->H b=none->H' b=none)
  (F:∀b o,b∉ch->s.heap.get? b=some o->∃o',h'.get? b=some o')
  (tups:∀b xs,H b=some (.tup xs)->H' b=some (.tup xs)) (P:∀b o u,H b=some (.frz o u)->H' b=some (.frz o u)) (tbls:∀b ps,H b=some (.tbl ps)->∃more,H' b=some (.tbl (ps++more)))
  (ns:∀m,s.heap.Ns X.env.locals m->h'.Ns X.env.locals m) (hok:HOk X.prog X.w H' h') (hg:AllBare g') :
  Inv X aA σ H' {s with heap:=h',gens:=g',drawn:=d',toks:=t'}:=by
 have neL:∀b o,X.s₀.heap.get? b=some o->b≠X.env.locals:=λb o e=>Ab9 (Ab8 (Ab3 e) I.ok.above)
 have Q:∀b o,X.s₀.heap.get? b=some o->b∉X.ex->b∉ch:=λb o e Y D=>by
  rcases (M b D).1 with z | z
  .exact Y z
  .exact absurd (Ab8 (Ab3 e) z) (Ad9 _)
 have J:∀x c,X.env.cells.lookup x=some c->∀v,s.heap.IsCell c v->h'.IsCell c v:=λx c e v ⟨o,ho,hd⟩=>by
  have N:c∉ch:=λz=>(M c z).2.2.1 x c e rfl
  by_cases hc:c∈X.fs
  .obtain⟨sl,q⟩:=slot c o (I.cne x c e) hc N ho (I.freeC x c e);exact⟨_,q,hd⟩
  .exact⟨o,keep c o (I.cne x c e) hc N ho (I.freeC x c e),hd⟩
 refine⟨I.ok,I.os,hg,⟨λb o e n D Y=>?_,λb o e n D Y=>?_,λb o e n Y=>?_,λb o e Y=>?_,λb xs e=>tups b xs (I.base.tups b xs e),λb o xs e=>P b o xs (I.base.frzs b o xs e),λb ps e=>?_⟩,?_,λx c e=>?_,?_,λx c e=>?_,λp hp=>?_,hok,I.len⟩
 .exact keep b o (neL b o e) D (Q b o e Y) (I.base.keep b o e n D Y) (I.base.free b o e n Y)
 .obtain⟨sl,R⟩:=I.base.slot b o e n D Y;obtain⟨sl',B⟩:=slot b _ (neL b o e) D (Q b o e Y) R (I.base.free b o e n Y);exact⟨sl',B⟩
 .obtain⟨o',R⟩:=I.base.there b o e Y;exact U b o' (Q b o e Y) R (I.base.free b o e n Y)
 .obtain⟨o',R⟩:=I.base.there b o e Y;exact F b o' (Q b o e Y) R
 .obtain⟨m1,R⟩:=I.base.tbls b ps e;obtain⟨m2,B⟩:=tbls b _ R;exact⟨m1++m2,by rw[B,Array.append_assoc]⟩
 .obtain⟨m,hn,hl⟩:=I.loc;refine⟨m,ns m hn,λi x v R B e3=>?_⟩
  obtain⟨u,r,l⟩:=hl i x v R B e3;refine⟨u,r,?_⟩;rcases l with l | ⟨k,c,e,z⟩
  .exact .inl l
  .exact .inr ⟨k,c,e,J x c e _ z⟩
 .obtain⟨v,z⟩:=I.cell x c e;exact⟨v,J x c e v z⟩
 .obtain⟨m,⟨o,_,_,ho,_⟩,_⟩:=I.loc;exact U _ o (λz=>(M _ z).2.1 rfl) ho I.free
 .obtain⟨v,o,ho,hd⟩:=I.cell x c e;exact U c o (λz=>(M c z).2.2.1 x c e rfl) ho (I.freeC x c e)
 .obtain⟨e,n,ne,nf,d⟩:=I.pin p hp;have N:p.1∉ch:=λz=>(M p.1 z).2.2.2 p hp rfl
  exact⟨keep p.1 p.2 ne nf N e n,U p.1 p.2 N e n,ne,nf,d⟩
theorem Inv.un {t':Nat}(I:Inv X aA σ H s)(u:Un X.fs [] H H' s.heap h')(N:HOk X.prog X.w H' h'):Inv X aA σ H' {s with heap:=h',toks:=t'}:=by
 obtain⟨m,⟨o,B,F,ho,r⟩,_⟩:=id I.loc;obtain⟨sl,R⟩:=u.any ho I.free (by simp)
 exact I.step (g':=s.gens) (d':=s.drawn) (ch:=[]) (λ_ z=>nomatch z) (λb o _ M _ e n=>u.keep b o e n M (by simp)) (λb o _ M _ e n=>u.slot b o e n M (by simp)) (λb o _ e n=>u.free b o e n (by simp)) (λb o _ e=>u.there b o e (by simp)) u.tups u.frzs u.tbls (λP Q=>by
  obtain⟨o',J,U,Y,D⟩:=Q;rw[ho]at Y;cases Y;exact⟨_,J,U,R,D⟩) N I.bare
theorem Inv.call {g':Array GenState}{t':Nat}{d':Drawn}{ch:List Addr}(I:Inv X aA σ H s)(u:Un (frs X.stack) ch H H' s.heap h')(Q:HOk X.prog X.w H' h')(F:AllBare g')
  (U:∀b∈ch,(b∈X.ex\/X.s₀.heap.objs.size<=b)/\b≠X.env.locals/\(∀x c,X.env.cells.lookup x=some c->c≠b)/\∀p∈X.pn++aA,p.1≠b) :
  Inv X aA σ H' {s with heap:=h',gens:=g',drawn:=d',toks:=t'}:=by
 obtain⟨m,⟨o,es,ep,ho,r⟩,_⟩:=id I.loc;obtain⟨sl,R⟩:=u.any ho I.free λz=>(U _ z).2.1 rfl
 exact I.step (ch:=ch) U (λb o R D Y e n=>u.keep b o e n (λz=>(Aa1.mp (I.stkSub b z)).elim R D) Y) (λb o _ _ Y e n=>u.any e n Y) (λb o Y e n=>u.free b o e n Y) (λb o Y e=>u.there b o e Y) u.tups u.frzs u.tbls (λm' B=>by
  obtain⟨o',N,M,J,P⟩:=B;rw[ho]at J;cases J;exact⟨_,N,M,R,P⟩) Q F
theorem Inv.turned {t':Nat}{it:Addr}(I:Inv X aA σ H s)(k:∀b o,b≠it->s.heap.get? b=some o->h'.get? b=some o)(F:H it=none)(U:it≠X.env.locals)
  (h1:it∈X.ex\/X.s₀.heap.objs.size<=it) (N:∀x c,X.env.cells.lookup x=some c->c≠it) (R:∀p∈X.pn++aA,p.1≠it):Inv X aA σ H {s with heap:=h',toks:=t'}:=by
 have Y:∀b u,H b=some u->b≠it:=λb u e z=>by rw[z,F]at e;cases e
 refine I.step (g':=s.gens) (d':=s.drawn) (ch:=[it]) (λb Q=>?_) (λb o _ _ w e _=>k b o (λz=>w (by simp[z])) e) (λb o _ _ w e _=>⟨o.slots,k b o (λz=>w (by simp[z])) e⟩) (λ_ _ _ _ n=>n)
  (λb o w e=>⟨o,k b o (λz=>w (by simp[z])) e⟩) (λ_ _ e=>e) (λ_ _ _ e=>e) (λb ps e=>⟨#[],by rw[e];simp⟩) (λm D=>?_) (λb u e=>?_) I.bare
 .have e:b=it:=by simpa using Q
  subst e;exact⟨h1,U,N,R⟩
 .obtain⟨o,M,J,ho,r⟩:=D;exact⟨o,M,J,k _ o (Ne.symm U) ho,r⟩
 .refine(I.hok b u e).stay (λc v w q=>k c v ?_ q) (λ_ q=>q) λ_ _ q=>q
  rcases w with z | z
  .rw[z];exact Y b u e
  .exact Y c _ z
theorem Inv.tok (I:Inv X aA σ H s)(t:Nat):Inv X aA σ H {s with toks:=t}:=I.un (h':=s.heap) (t':=t) Un.refl I.hok
theorem Inv.kept (I:Inv X aA σ H s)(k:∀b u,s.heap.get? b=some u->h'.get? b=some u):Inv X aA σ H {s with heap:=h',toks:=t'}:=I.un (Un.kept k) (I.hok.kept k)
theorem Inv.laid (I:Inv X aA σ H s)(k:∀b u,s.heap.get? b=some u->h'.get? b=some u)(hp:s.heap.objs.size<=a)(e:ObjOk X.prog X.w (upd H a o) h' a o) :
  Inv X aA σ (upd H a o) {s with heap:=h',toks:=t'}:=I.un (Un.laid k hp (I.hok.fresh hp)) (I.hok.laid k hp e)
theorem Inv.write (I:Inv X aA σ H s)(Y:Mut (H x))(he:e=x\/H e=some (.own x))(k:∀b u,b≠e->s.heap.get? b=some u->h'.get? b=some u)(z:∃u,h'.get? e=some u)
  (m:ObjOk X.prog X.w (upd H x o) h' x o):Inv X aA σ (upd H x o) {s with heap:=h',toks:=t'}:=I.un (Un.write Y he k z) (I.hok.write Y he k z m)
theorem Inv.weak (I:Inv X aA σ H s)(J:σ'.length=σ.length)(w:∀(i:Nat) v,σ'[i]? = some (some v)->σ[i]? = some (some v)):Inv X aA σ' H s:=
 ⟨I.ok,I.os,I.bare,I.base,let ⟨m,M,e⟩:=I.loc;⟨m,M,λi x v z Y U=>e i x v z (w i v Y) U⟩,I.cell,I.free,I.freeC,I.pin,I.hok,J.trans I.len⟩
theorem Inv.pins_of (I:Inv X aA σ H s)(h:∀p∈pins',s.heap.get? p.1=some p.2/\H p.1=none/\p.1≠X.env.locals/\p.1∉X.fs/\∀v,p.2.data≠.cell v):Inv X pins' σ H s:=
 ⟨I.ok,I.os,I.bare,I.base,I.loc,I.cell,I.free,I.freeC,λp hp=>(Aa0.mp hp).elim (λz=>I.pin p (Al _ z)) (h p),I.hok,I.len⟩
theorem bM2 {N:List Str}(hN:N.Nodup){i j:Nat}{x:Str}(a:N[i]? = some x)(b:N[j]? = some x):i=j:=by
 obtain⟨h1,e⟩:=Ab0.mp a;obtain⟨z,w⟩:=Ab0.mp b;exact(List.getElem_inj hN).mp (e.trans w.symm)
theorem bC5 (I:Inv X aA σ H s)(hN:X.N.Nodup)(hi:X.N[i]? = some x)(R:Loc X.env.scope x)(r:RelV v u)
  (h:∀s',Inv X aA (σ.set i (some v)) H s'->(∃a,Heap.SameBut a s.heap s'.heap/\(a=X.env.locals\/X.env.cells.lookup x=some a))->Q () s') (hf:X.fn x=true\/X.env.scope.names.lookup x=some .local:=by first | exact .inl rfl | exact .inr rfl | assumption):wpAny M A (storeName X.env x u) Q E s:=by
 obtain⟨m,hn,hl⟩:=id I.loc;have hcls:(X.env.scope.kind == .class||(X.env.scope.kind == .module&&X.env.locals != X.env.globals))=false:=by rw[I.ok.kind];rfl
 have hiσ:i<σ.length:=by rw[I.len];exact(Ab0.mp hi).1
 have cne:=I.cne
 have J:∀{a:Addr} {h':Heap},(∃o,s.heap.get? a=some o/\H a=none)->Heap.SameBut a s.heap h'->HOk X.prog X.w H h':=λ{a h'} ha Y b ob e=>by
  obtain⟨_,_,D⟩:=ha;refine(I.hok b ob e).stay (λc w' hc q=>(Y.2 c ?_).trans q) (λ_ q=>q) λ_ _ q=>q
  rintro rfl;rcases hc with rfl | hc
  .rw[D]at e;cases e
  .rw[D]at hc;cases hc
 rcases R with hk | hk
 .refine wpAny_storeName_local hk hn (λh' hn' Y=>?_) hcls
  obtain⟨oL,_,_,hoL,_⟩:=id hn;refine h _ ⟨I.ok,I.os,I.bare,⟨λb o e n B R=>?_,λb o e n B R=>?_,I.base.free,λb o e R=>?_,I.base.tups,I.base.frzs,I.base.tbls⟩,⟨_,hn',λj y v' U F e3=>?_⟩,λy c e=>?_,I.free,I.freeC,λp hp=>?_,J ⟨oL,hoL,I.free⟩ Y,by simpa using I.len⟩ ⟨_,Y,.inl rfl⟩
  .exact(Y.2 b (Ab9 (Ab8 (Ab3 e) I.ok.above))).trans (I.base.keep b o e n B R)
  .obtain⟨sl,U⟩:=I.base.slot b o e n B R;exact⟨sl,(Y.2 b (Ab9 (Ab8 (Ab3 e) I.ok.above))).trans U⟩
  .obtain⟨o',U⟩:=I.base.there b o e R;exact⟨o',(Y.2 b (Ab9 (Ab8 (Ab3 e) I.ok.above))).trans U⟩
  .by_cases hj:j=i
   .subst hj;rw[hi]at U;cases U;rw[Bh hiσ]at F;cases F;exact⟨u,r,.inl ⟨hk,by simp⟩⟩
   .rw[Ad0 (Ne.symm hj)]at F;obtain⟨u',r',q⟩:=hl j y v' U F e3;refine⟨u',r',?_⟩;rcases q with⟨k,e⟩ | ⟨k,c,e,z⟩
    .refine .inl ⟨k,?_⟩
     have:y≠x:=λe=>hj (bM2 hN U (e▸hi))
     simp[this,e]
    .exact .inr ⟨k,c,e,z.sameBut Y (cne y c e)⟩
  .obtain⟨w',z⟩:=I.cell y c e;exact⟨w',z.sameBut Y (cne y c e)⟩
  .obtain⟨e,n,ne,nf,d⟩:=I.pin p hp;exact⟨(Y.2 p.1 ne).trans e,n,ne,nf,d⟩
 .have P:X.fn x=true:=by
   rcases hf with z | z
   .exact z
   .rw[z]at hk;cases hk
  obtain⟨c,hc⟩:=I.ok.has x (.inl hk);obtain⟨w',z⟩:=I.cell x c hc;refine wpAny_storeName_cell I.ok.kind hk hc z (λh' hc' Y=>?_)
  obtain⟨oc,hoc,hocd⟩:=id z;refine h {s with heap:=h'} ⟨I.ok,I.os,I.bare,⟨λb o e n B R=>?_,λb o e n B R=>?_,I.base.free,λb o e R=>?_,I.base.tups,I.base.frzs,I.base.tbls⟩,⟨m,hn.sameBut Y (Ne.symm (cne x c hc)),λj y v' U F e3=>?_⟩,λy c' e=>?_,I.free,I.freeC,λp hp=>?_,J ⟨oc,hoc,I.freeC x c hc⟩ Y,by simpa using I.len⟩ ⟨c,Y,.inr hc⟩
  .exact(Y.2 b (Ab9 (Ab8 (Ab3 e) (I.ok.cab x c P hc)))).trans (I.base.keep b o e n B R)
  .obtain⟨sl,U⟩:=I.base.slot b o e n B R;exact⟨sl,(Y.2 b (Ab9 (Ab8 (Ab3 e) (I.ok.cab x c P hc)))).trans U⟩
  .obtain⟨o',U⟩:=I.base.there b o e R;exact⟨o',(Y.2 b (Ab9 (Ab8 (Ab3 e) (I.ok.cab x c P hc)))).trans U⟩
  .by_cases hj:j=i
   .subst hj;rw[hi]at U;cases U;rw[Bh hiσ]at F;cases F;exact⟨u,r,.inr ⟨.inl hk,c,hc,hc'⟩⟩
   .rw[Ad0 (Ne.symm hj)]at F;obtain⟨u',r',q⟩:=hl j y v' U F e3;refine⟨u',r',?_⟩;rcases q with q | ⟨k,c',e,z'⟩
    .exact .inl q
    .refine .inr ⟨k,c',e,z'.sameBut Y ?_⟩;rintro rfl;exact hj (bM2 hN U (I.ok.inj _ _ _ e hc▸hi))
  .by_cases hcc:c'=c
   .subst hcc;exact⟨_,hc'⟩
   .obtain⟨w2,z2⟩:=I.cell y c' e;exact⟨w2,z2.sameBut Y hcc⟩
  .obtain⟨e,n,ne,nf,d⟩:=I.pin p hp;refine⟨(Y.2 p.1 ?_).trans e,n,ne,nf,d⟩;intro q;rw[q,hoc]at e;have q':oc=p.2:=Ab4 e;exact d w' (by rw[<- q'];exact hocd)
theorem aX9 (I:Inv X aA σ H s)(hN:X.N.Nodup)(hi:X.N[i]? = some x)(z:Loc X.env.scope x)(r:RelV v u)
  (h:∀s',Inv X aA (σ.set i (some v)) H s'->Q () s') (w:X.fn x=true\/X.env.scope.names.lookup x=some .local:=by first | exact .inl rfl | exact .inr rfl | assumption):wpAny M A (storeName X.env x u) Q E s:=
 bC5 I hN hi z r (λs' e _=>h s' e) w
theorem Inv.call' (I:Inv X aA σ H s)(ho:s'.os=s.os)(u:Un (frs X.stack) ch H H' s.heap s'.heap)(m:HOk X.prog X.w H' s'.heap)(Y:AllBare s'.gens)
  (z:∀b∈ch,(b∈X.ex\/X.s₀.heap.objs.size<=b)/\b≠X.env.locals/\(∀x c,X.env.cells.lookup x=some c->c≠b)/\∀p∈X.pn++aA,p.1≠b):Inv X aA σ H' s':=by
 obtain⟨h',g',d',t',U⟩:=s';have e:U=s.os:=ho;subst e;exact I.call (g':=g') (t':=t') (d':=d') u m Y z
end
abbrev XK:=Value->Option Addr->Hp->Prop
abbrev St:=List (Option V)
abbrev VK:=V->Hp->Prop
abbrev TE:=St->Hp->VK->Prop
abbrev TT:=St->Hp->(Bool->Hp->Prop)->Prop
abbrev TA:=St->Hp->(List V->Hp->Prop)->Prop
structure bI0 where
 nx:St->Hp->Prop
 rt:VK
 bk:St->Hp->Prop:=λ_ _=>False
 ct:St->Hp->Prop:=λ_ _=>False
abbrev TS:=bI0->St->Hp->Prop
def EP (X:Cx)(aA:Eg)(σ:St)(Q:VK)(u:Value)(s':Shared):Prop:=∃v H',Inv X aA σ H' s'/\RelV v u/\Q v H'
def TP (X:Cx)(aA:Eg)(σ:St)(Q:Bool->Hp->Prop)(b:Bool)(s':Shared):Prop:=∃H',Inv X aA σ H' s'/\Q b H'
def AP (X:Cx)(aA:Eg)(σ:St)(Q:List V->Hp->Prop)(us:List Value)(s':Shared):Prop:=∃vs H',Inv X aA σ H' s'/\Vals vs us/\Q vs H'
def SP (X:Cx)(aA:Eg)(D:bI0)(f:Flow)(s':Shared):Prop:=
 match f with
 | .next=>∃σ' H',Inv X aA σ' H' s'/\D.nx σ' H'
 | .brk=>∃σ' H',Inv X aA σ' H' s'/\D.bk σ' H'
 | .cont=>∃σ' H',Inv X aA σ' H' s'/\D.ct σ' H'
 | .ret u=>∃v σ' H',Inv X aA σ' H' s'/\RelV v u/\D.rt v H'
structure PE (X:Cx)(e:Expr)(t:TE):Prop where
 mk ::
 run :
  ∀(aA:Eg) (s:Shared) (σ:St) (H:Hp) (Q:VK),Inv X aA σ H s->t σ H Q->wpAny (model X.prog X.w) X.A (eval e X.env) (EP X aA σ Q) X.xe s
instance {X:Cx} {e:Expr} {t:TE}:CoeFun (PE X e t) λ_=>
 (∀(aA:Eg) (s:Shared) (σ:St) (H:Hp) (Q:VK),Inv X aA σ H s->t σ H Q->wpAny (model X.prog X.w) X.A (eval e X.env) (EP X aA σ Q) X.xe s):=⟨PE.run⟩
structure PT (X:Cx)(e:Expr)(t:TT):Prop where
 mk ::
 run :
  ∀(aA:Eg) (s:Shared) (σ:St) (H:Hp) (Q:Bool->Hp->Prop),Inv X aA σ H s->t σ H Q->wpAny (model X.prog X.w) X.A (isTrue e X.env (eval e X.env)) (TP X aA σ Q) X.xe s
instance {X:Cx} {e:Expr} {t:TT}:CoeFun (PT X e t) λ_=>
 (∀(aA:Eg) (s:Shared) (σ:St) (H:Hp) (Q:Bool->Hp->Prop),Inv X aA σ H s->t σ H Q->wpAny (model X.prog X.w) X.A (isTrue e X.env (eval e X.env)) (TP X aA σ Q) X.xe s):=⟨PT.run⟩
structure PW (X:Cx)(e:Expr)(t:TT):Prop where
 mk ::
 run :
  ∀(whole:Sem Value) (aA:Eg) (s:Shared) (σ:St) (H:Hp) (Q:Bool->Hp->Prop),Inv X aA σ H s->t σ H Q->wpAny (model X.prog X.w) X.A (isTrue e X.env whole) (TP X aA σ Q) X.xe s
instance {X:Cx} {e:Expr} {t:TT}:CoeFun (PW X e t) λ_=>
 (∀(whole:Sem Value) (aA:Eg) (s:Shared) (σ:St) (H:Hp) (Q:Bool->Hp->Prop),Inv X aA σ H s->t σ H Q->wpAny (model X.prog X.w) X.A (isTrue e X.env whole) (TP X aA σ Q) X.xe s):=⟨PW.run⟩
theorem PW.pt (h:PW X e t):PT X e t:=⟨h _⟩
structure PA (X:Cx)(es:List Expr)(t:TA):Prop where
 mk ::
 run :
  ∀(pos:Pos) (aA:Eg) (s:Shared) (σ:St) (H:Hp) (Q:List V->Hp->Prop),Inv X aA σ H s->t σ H Q->wpAny (model X.prog X.w) X.A (spliced (backTo pos (starEach es X.env))) (AP X aA σ Q) X.xe s
instance {X:Cx} {es:List Expr} {t:TA}:CoeFun (PA X es t) λ_=>
 (∀(pos:Pos) (aA:Eg) (s:Shared) (σ:St) (H:Hp) (Q:List V->Hp->Prop),Inv X aA σ H s->t σ H Q->wpAny (model X.prog X.w) X.A (spliced (backTo pos (starEach es X.env))) (AP X aA σ Q) X.xe s):=⟨PA.run⟩
structure PS (X:Cx)(st:Stmt)(t:TS):Prop where
 mk ::
 run :
  ∀(aA:Eg) (s:Shared) (σ:St) (H:Hp) (D:bI0),Inv X aA σ H s->t D σ H->wpAny (model X.prog X.w) X.A (exec st X.env) (SP X aA D) X.xe s
instance {X:Cx} {st:Stmt} {t:TS}:CoeFun (PS X st t) λ_=>
 (∀(aA:Eg) (s:Shared) (σ:St) (H:Hp) (D:bI0),Inv X aA σ H s->t D σ H->wpAny (model X.prog X.w) X.A (exec st X.env) (SP X aA D) X.xe s):=⟨PS.run⟩
structure PSs (X:Cx)(st:List Stmt)(t:TS):Prop where
 mk ::
 run :
  ∀(aA:Eg) (s:Shared) (σ:St) (H:Hp) (D:bI0),Inv X aA σ H s->t D σ H->wpAny (model X.prog X.w) X.A (execs st X.env) (SP X aA D) X.xe s
instance {X:Cx} {st:List Stmt} {t:TS}:CoeFun (PSs X st t) λ_=>
 (∀(aA:Eg) (s:Shared) (σ:St) (H:Hp) (D:bI0),Inv X aA σ H s->t D σ H->wpAny (model X.prog X.w) X.A (execs st X.env) (SP X aA D) X.xe s):=⟨PSs.run⟩
theorem thn (h:wpAny M A t Q E s)(e:∀a s,Q a s->Q' a s):wpAny M A t Q' E s:=wpAny_mono h e λ_ _ x=>x
section
variable {X:Cx}
def D7 (i:Nat):TE:=λσ H Q=>∃v,σ[i]? = some (some v)/\Q v H
def tC (v:V):TE:=λ_ H Q=>Q v H
theorem dO3 (hN:X.N[i]? = some x)(F:Vis X.env.scope x)(Y:(x==("__debug__" : Str))=false:=by decide)(z:(x==("__classdict__" : Str))=false:=by decide):PE X (.Name x pos) (D7 i):=by
 refine⟨?_⟩;intro J s σ H Q I h;obtain⟨v,e,h⟩:=h;obtain⟨m,D,M⟩:=I.loc;obtain⟨u,r,l⟩:=M i x v hN e F;have fin:EP X J σ Q u s:=⟨v,H,I,r,h⟩;rcases l with⟨hk,R⟩ | ⟨hk,c,U,w⟩
 .exact wpAny_Name (wpAny_loadName_local I.ok.kind hk D R fin) Y
 .rcases hk with hk | hk
  .exact wpAny_Name (wpAny_loadName_cell I.ok.kind hk U w fin) Y
  .exact wpAny_Name (wpAny_loadName_free I.ok.kind hk U w fin z) Y
theorem A4:PE X (.Constant (.int i) j pos) (tC (.int i)):=⟨λ_ _ _ H _ I h=>wpAny_Constant_int ⟨.int i,H,I.tok _,⟨_,rfl⟩,h⟩⟩
theorem s9:PE X (.Constant (.bool b) j pos) (tC (.bl b)):=⟨λ_ _ _ H _ I h=>Constant_bool ⟨.bl b,H,I,rfl,h⟩⟩
def Gl (X:Cx)(x:Str):Prop:=X.env.kindOf x=some .globalImplicit
theorem bY5 (I:Inv X aA σ H s)(z:Gl X x)(m:X.mg x=some u)(h:Q u s)
  (e:(x==("__debug__" : Str))=false:=by decide):wpAny (model X.prog X.w) X.A (eval (.Name x pos) X.env) Q E s:=
 Calls.Name_function_global I.ok.kind z (Calls.loadGlobal_global (by rw[I.ok.glob];exact I.mod.glob.keeps I.bk) m h) e
theorem m5 (I:Inv X aA σ H s)(m:Gl X x)(Y:X.mg x=none)(J:bootBuiltins x=some u)(h:Q u s)
  (U:x≠"__name__" := by decide) (z:(x==("__debug__" : Str))=false:=by decide):wpAny (model X.prog X.w) X.A (eval (.Name x pos) X.env) Q E s:=by
 obtain⟨M,h1,e⟩:=I.mod.blt;exact Calls.Name_function_global I.ok.kind m (Calls.loadGlobal_builtin (by rw[I.ok.glob];exact I.mod.glob.keeps I.bk) Y (by rw[I.ok.blt];exact h1.keeps I.bk) ((e x U).trans J) h) z
theorem bI8 (w:Gl X x)(z:X.mg x=some u)(r:RelV v u)(e:(x==("__debug__" : Str))=false:=by decide):PE X (.Name x pos) (tC v):=⟨λ_ _ _ H _ I h=>bY5 I w z ⟨v,H,I,r,h⟩ e⟩
theorem cY9 (w:Gl X x)(z:X.mg x=none)(m:bootBuiltins x=some u)(r:RelV v u)(s:x≠"__name__" := by decide)(e:(x==("__debug__" : Str))=false:=by decide):PE X (.Name x pos) (tC v):=⟨λ_ _ _ H _ I h=>m5 I w z m ⟨v,H,I,r,h⟩ s e⟩
def t2I (ta tb:TE)(k:Int->Int->Hp->Prop):St->Hp->Prop:=λσ H=>ta σ H λx H1=>tb σ H1 λy H2=>∃i j,x=.int i/\y=.int j/\k i j H2
variable {a b:Expr}{ta tb:TE}{pos:Pos}
structure PC (X:Cx)(op:CmpOp)(a b:Expr)(t:TE):Prop where
 mk ::
 run :
  ∀(aA:Eg) (s:Shared) (σ:St) (H:Hp) (Q:VK),Inv X aA σ H s->t σ H Q ->
   wpAny (model X.prog X.w) X.A (eval a X.env) (λv s₁=>wpAny (model X.prog X.w) X.A (eval b X.env) (λu s₂=>wpAny (model X.prog X.w) X.A (compareOp op v u) (EP X aA σ Q) X.xe s₂) X.xe s₁) X.xe s
instance {X:Cx} {op:CmpOp} {a b:Expr} {t:TE}:CoeFun (PC X op a b t) λ_=>
 (∀(aA:Eg) (s:Shared) (σ:St) (H:Hp) (Q:VK),Inv X aA σ H s->t σ H Q ->
  wpAny (model X.prog X.w) X.A (eval a X.env) (λv s₁=>wpAny (model X.prog X.w) X.A (eval b X.env) (λu s₂=>wpAny (model X.prog X.w) X.A (compareOp op v u) (EP X aA σ Q) X.xe s₂) X.xe s₁) X.xe s):=⟨PC.run⟩
def cF6 (p:Int->Int->Bool)(ta tb:TE):TE:=λσ H Q=>t2I ta tb (λi j H2=>Q (.bl (p i j)) H2) σ H
abbrev tLt:TE->TE->TE:=cF6 λi j=>decide (i<j)
abbrev tLe:TE->TE->TE:=cF6 λi j=>decide (i<=j)
abbrev tGt:TE->TE->TE:=cF6 λi j=>decide (j<i)
abbrev tGe:TE->TE->TE:=cF6 λi j=>decide (j<=i)
abbrev dW9:TE->TE->TE:=cF6 λi j=>decide (i=j)
abbrev dW8:TE->TE->TE:=cF6 λi j => !decide (i=j)
def tB (t:TE):TT:=λσ H Q=>t σ H λx H1=>∃c,x=.bl c/\Q c H1
theorem Z4 (h:PE X e t)(he:∀whole,isTrue e X.env whole=(do let v <- whole;standAt e.pos;holding [v] (truthy v)):=by intro _;rfl):PT X e (tB t):=by
 refine⟨?_⟩;intro z s σ H Q I m;refine isTrue_plain (thn (h z s σ H _ I m) λv J ⟨x,H1,w,U,Y⟩=>?_) (he _)
 obtain⟨d,rfl,q⟩:=Y;cases U;exact wpAny_truthy_bool ⟨H1,w,q⟩
variable {tA tB':TT}{rest:List Expr}
def dU7 (t u:TT):TT:=λσ H Q=>t σ H λc H1=>if c=true then u σ H1 Q else Q false H1
def tOr (t u:TT):TT:=λσ H Q=>t σ H λc H1=>if c=true then Q true H1 else u σ H1 Q
def dQ4 (t:TT):TT:=λσ H Q=>t σ H λc H1=>Q (!c) H1
theorem aR4 (z:PT X a tA):PW X (.BoolOp .And [a] pos) tA:=by
 refine⟨?_⟩;intro Y w s σ H Q I h;refine isTrue_and (thn (z w s σ H Q I h) λc m e=>?_)
 cases c with
 | true=>exact isTrue_and_nil e
 | false=>exact e
theorem bU6 (z:PT X a tA):PW X (.BoolOp .Or [a] pos) tA:=by
 refine⟨?_⟩;intro Y w s σ H Q I h;refine isTrue_or (thn (z w s σ H Q I h) λc m e=>?_)
 cases c with
 | false=>exact isTrue_or_nil e
 | true=>exact e
theorem aF3 (m:PT X a tA)(Y:PW X (.BoolOp .And (b::rest) pos) tB'):PW X (.BoolOp .And (a::b::rest) pos) (dU7 tA tB'):=by
 refine⟨?_⟩;intro J w s σ H Q I h;refine isTrue_and (thn (m w s σ H _ I h) λc U ⟨H1,e,z⟩=>?_)
 cases c with
 | true=>exact Y J w U σ H1 Q e z
 | false=>exact⟨H1,e,z⟩
theorem cC3 (m:PT X a tA)(Y:PW X (.BoolOp .Or (b::rest) pos) tB'):PW X (.BoolOp .Or (a::b::rest) pos) (tOr tA tB'):=by
 refine⟨?_⟩;intro J w s σ H Q I h;refine isTrue_or (thn (m w s σ H _ I h) λc U ⟨H1,e,z⟩=>?_)
 cases c with
 | true=>exact⟨H1,e,z⟩
 | false=>exact Y J w U σ H1 Q e z
theorem aF0 (w:PT X a tA):PT X (.UnaryOp .Not a pos) (dQ4 tA):=by
 refine⟨?_⟩;intro e s σ H Q I h;exact isTrue_not (w e s σ H (λc H1=>Q (!c) H1) I h)
def dD6 (ta tb:TE):TE:=λσ H Q=>ta σ H λx H1=>∃c,x=.bl c/\if c=true then tb σ H1 Q else Q (.bl false) H1
def dF5 (ta:TE):TE:=λσ H Q=>ta σ H λx H1=>∃c,x=.bl c/\Q (.bl (!c)) H1
theorem cV1 (h:PE X a t):PE X (.BoolOp op [a] pos) t:=⟨λe s σ H Q I w=>BoolOp_one (h e s σ H Q I w)⟩
theorem cN2 (m:PE X a ta)(Y:PE X (.BoolOp .And (b::rest) pos) tb):PE X (.BoolOp .And (a::b::rest) pos) (dD6 ta tb):=by
 refine⟨?_⟩;intro z s σ H Q I h;refine BoolOp_and (thn (m z s σ H _ I h) λv J ⟨x,H1,w,U,e⟩=>?_)
 obtain⟨c,rfl,e⟩:=e;cases U;refine wpAny_truthy_bool ?_;cases c with
 | true=>exact Y z J σ H1 Q w e
 | false=>exact⟨.bl false,H1,w,rfl,e⟩
theorem dJ1 (m:PE X a ta):PE X (.UnaryOp .Not a pos) (dF5 ta):=by
 refine⟨?_⟩;intro z s σ H Q I h;refine UnaryOp_ (thn (m z s σ H _ I h) λv U ⟨x,H1,w,Y,e⟩=>?_)
 obtain⟨c,rfl,e⟩:=e;cases Y;exact not_of (wpAny_truthy_bool ⟨.bl (!c),H1,w,rfl,e⟩)
def tIf (t:TT)(ta tb:TE):TE:=λσ H Q=>t σ H λc H1=>if c=true then ta σ H1 Q else tb σ H1 Q
theorem bK7 (J:PT X c tA)(Y:PE X a ta)(U:PE X b tb):PE X (.IfExp c a b pos) (tIf tA ta tb):=by
 refine⟨?_⟩;intro e s σ H Q I h;refine wpAny_IfExp (thn (J e s σ H _ I h) λd m ⟨H1,w,z⟩=>?_)
 cases d with
 | true=>exact Y e m σ H1 Q w z
 | false=>exact U e m σ H1 Q w z
end
def SqL (K:Frag)(H:Hp)(a:Addr)(xs:List V):Prop:=
 Rd H a (.lst xs) \/
  ∃(o:Obj) (its:Array Value) (n:Nat),K.lookup a=some o/\o.cls=.type "list" /\ o.dict=none/\o.data=.seq its n/\its.size<=sizeLine/\Vals xs its.toList
def SqT (K:Frag)(H:Hp)(a:Addr)(xs:List V):Prop:=
 Rd H a (.tup xs) \/
  ∃(o:Obj) (its:Array Value) (n:Nat),K.lookup a=some o/\o.cls=.type "tuple" /\ o.dict=none/\o.data=.seq its n/\its.size<=sizeLine/\Vals xs its.toList
def dV7:Value->Option V
 | .none=>some .non
 | .bool b=>some (.bl b)
 | .int i _=>some (.int i)
 | .str x _=>some (.str x)
 | .bytes b _=>some (.byt b)
 | .float b _=>some (.flt b)
 | .ref a=>some (.ref a)
 | .type n=>some (.ty n)
 | _=>none
theorem RelV.abs (r:RelV x u):dV7 u=some x:=by
 cases x with
 | non=>cases r;rfl
 | bl _=>cases r;rfl
 | int _=>obtain⟨t,rfl⟩:=r;rfl
 | str _=>obtain⟨t,rfl⟩:=r;rfl
 | byt _=>obtain⟨t,rfl⟩:=r;rfl
 | flt _=>obtain⟨t,rfl⟩:=r;rfl
 | ref _=>cases r;rfl
 | ty _=>cases r;rfl
theorem RelV.inj (r:RelV x u)(q:RelV y u):x=y:=Ab4 (r.abs.symm.trans q.abs)
theorem Vals.inj:∀{xs ys:List V} {us:List Value},Vals xs us->Vals ys us->xs=ys
 | _,_,_,.nil,.nil=>rfl
 | _,_,_,.cons r t,.cons r' t'=>by rw[r.inj r',Vals.inj t t']
section
variable {X:Cx}{aA:Eg}{σ:St}{H:Hp}{s:Shared}{a:Addr}{xs ys:List V}
theorem SqL.of {K:Frag}(h:H a=some (.lst xs)):SqL K H a xs:=.inl (.inl h)
theorem SqT.of {K:Frag}(h:H a=some (.tup xs)):SqT K H a xs:=.inl (.inl h)
theorem Inv.list (I:Inv X aA σ H s)(h:SqL X.K H a xs):∃its:List Value,Vals xs its/\PlainL s.heap a its.toArray/\xs.length<=sizeLine:=by
 rcases h with h | ⟨o,its,n,Y,w,m,U,J,r⟩
 .obtain⟨z,its,n,r,e⟩:=h.ok I.hok;exact⟨its,r,⟨_,n,e,rfl,rfl,rfl⟩,z⟩
 .refine⟨its.toList,r,⟨o,n,I.kIn a o Y,w,m,by simpa using U⟩,?_⟩
  have e:=r.length
  simp only[Am]at e
  lia
theorem Inv.tuple0 (I:Inv X aA σ H s)(h:SqT X.K H a xs):∃its:List Value,Vals xs its/\Tup0 s.heap a its.toArray/\xs.length<=sizeLine:=by
 rcases h with h | ⟨o,its,n,Y,w,m,U,J,r⟩
 .obtain⟨z,its,r,p⟩:=h.ok I.hok;exact⟨its,r,p,z⟩
 .refine⟨its.toList,r,⟨o,I.kIn a o Y,w,⟨n,by simpa using U⟩,m⟩,?_⟩
  have e:=r.length
  simp only[Am]at e
  lia
theorem Inv.tuple (I:Inv X aA σ H s)(h:SqT X.K H a xs):∃its:List Value,Vals xs its/\IsTup s.heap a its.toArray/\xs.length<=sizeLine:=by
 obtain⟨its,r,p,z⟩:=I.tuple0 h;exact⟨its,r,p.tup,z⟩
theorem Inv.list_inj (I:Inv X aA σ H s)(h:SqL X.K H a xs)(h':SqL X.K H a ys):xs=ys:=by
 obtain⟨its,r,⟨o,n,e,_,_,d⟩,_⟩:=I.list h;obtain⟨w,Y,⟨U,n',e',_,_,z⟩,_⟩:=I.list h';rw[e]at e';cases e';rw[d]at z
 injection z with m _
 have:its=w:=by simpa using congrArg Array.toList m
 subst this;exact r.inj Y
theorem Inv.tuple_inj (I:Inv X aA σ H s)(h:SqT X.K H a xs)(h':SqT X.K H a ys):xs=ys:=by
 obtain⟨its,r,⟨o,e,_,n,d⟩,_⟩:=I.tuple h;obtain⟨w,Y,⟨U,e',_,n',z⟩,_⟩:=I.tuple h';rw[e]at e';cases e';rw[d]at z
 injection z with m _
 have:its=w:=by simpa using congrArg Array.toList m
 subst this;exact r.inj Y
end
abbrev Cx.wish (X:Cx)(E:Ef):Cx:={X with xe:=E}
abbrev Cx.nox (X:Cx):Cx:=X.wish λ_ _=>False
theorem Cx.Ok.wish {X:Cx}(ok:X.Ok)(E:Ef):(X.wish E).Ok:=
 ⟨ok.mod,ok.kind,ok.glob,ok.blt,ok.above,ok.inj,ok.has,ok.cab,ok.hd,ok.frames,ok.stk,ok.exf,ok.bs,ok.bsz,ok.noex,ok.exfs,ok.funs,ok.frf⟩
theorem Cx.Ok.unwish {X:Cx}{E:Ef}(ok:(X.wish E).Ok):X.Ok:=
 ⟨ok.mod,ok.kind,ok.glob,ok.blt,ok.above,ok.inj,ok.has,ok.cab,ok.hd,ok.frames,ok.stk,ok.exf,ok.bs,ok.bsz,ok.noex,ok.exfs,ok.funs,ok.frf⟩
section
variable {X:Cx}{aA:Eg}{σ:St}{H:Hp}{s:Shared}{E:Ef}
theorem Inv.wish (I:Inv X aA σ H s)(E:Ef):Inv (X.wish E) aA σ H s:=⟨I.ok.wish E,I.os,I.bare,I.base,I.loc,I.cell,I.free,I.freeC,I.pin,I.hok,I.len⟩
theorem Inv.unwish (I:Inv (X.wish E) aA σ H s):Inv X aA σ H s:=⟨I.ok.unwish,I.os,I.bare,I.base,I.loc,I.cell,I.free,I.freeC,I.pin,I.hok,I.len⟩
theorem SP.unwish {D:bI0}{f:Flow}{s':Shared}(h:SP (X.wish E) aA D f s'):SP X aA D f s':=by
 cases f with
 | next=>obtain⟨w,e,I,q⟩:=h;exact⟨w,e,I.unwish,q⟩
 | brk=>obtain⟨w,e,I,q⟩:=h;exact⟨w,e,I.unwish,q⟩
 | cont=>obtain⟨w,e,I,q⟩:=h;exact⟨w,e,I.unwish,q⟩
 | ret u=>obtain⟨v,w,e,I,r,q⟩:=h;exact⟨v,w,e,I.unwish,r,q⟩
theorem PSs.nox {st:List Stmt}{t:TS}(h:PSs X.nox st t):PSs X st t:=⟨λaA s σ H D I e=>
 wpAny_mono (h aA s σ H D (I.wish _) e) (λ_ _ q=>q.unwish) λ_ _ z=>False.elim z⟩
end
section
variable {X:Cx}{st:Stmt}{rest:List Stmt}{t u:TS}{e:Expr}{te:TE}{pos:Pos}
def dF2:TS:=λD σ H=>D.nx σ H
def dU6 (t u:TS):TS:=λD σ H=>t {D with nx:=u D} σ H
theorem F3:PSs X [] dF2:=⟨λ_ _ σ H _ I h=>wpAny_execs_nil ⟨σ,H,I,h⟩⟩
theorem A3 (h1:PS X st t)(Y:PSs X rest u):PSs X (st::rest) (dU6 t u):=by
 refine⟨?_⟩;intro w s σ H D I h;refine wpAny_execs_cons (thn (h1 w s σ H {D with nx:=u D} I h) λf U q=>?_)
 cases f with
 | next=>
  obtain⟨J,z,m,q⟩:=q;exact Y w U J z D m q
 | ret v=>exact q
 | brk=>exact q
 | cont=>exact q
theorem A8 (h1:PS X st t):PSs X [st] t:=by
 refine⟨?_⟩;intro w s σ H D I h;refine wpAny_execs_cons (thn (h1 w s σ H D I h) λf z q=>?_)
 cases f with
 | next=>exact wpAny_execs_nil q
 | ret v=>exact q
 | brk=>exact q
 | cont=>exact q
theorem Inv.quiet (I:Inv X aA σ H s):interactive X.env=false:=by simp[interactive,I.ok.kind]
def bC8 (te:TE):TS:=λD σ H=>te σ H λ_ H1=>D.nx σ H1
theorem F0 (he:PE X e te)(m:swapsWith e none pos.line X.env=pure false:=by rfl):PS X (.Expr e pos) (bC8 te):=by
 refine⟨?_⟩;intro z s σ H D I h;exact wpAny_Expr_any (thn (he z s σ H _ I h) λv J ⟨x,H1,w,U,Y⟩=>⟨σ,H1,w,Y⟩) I.quiet m
def dB7 (te:TE):TS:=λD σ H=>te σ H D.rt
theorem D0 (he:PE X e te):PS X (.Return (some e) pos) (dB7 te):=by
 refine⟨?_⟩;intro z s σ H D I h;exact wpAny_Return_some (thn (he z s σ H _ I h) λv U ⟨x,H1,w,Y,m⟩=>⟨x,σ,H1,w,Y,m⟩)
def cY2 (c:TT)(t u:TS):TS:=λD σ H=>c σ H λb H1=>if b=true then t D σ H1 else u D σ H1
theorem O1 (M:PT X c tc)(U:PSs X a t)(J:PSs X b u):PS X (.If c a b pos) (cY2 tc t u):=by
 refine⟨?_⟩;intro w s σ H D I h;refine wpAny_If (thn (M w s σ H _ I h) λd Y ⟨H1,z,m⟩=>?_)
 cases d with
 | true=>exact U w Y σ H1 D z m
 | false=>exact J w Y σ H1 D z m
def dK0:TS:=λ_ _ _=>False
theorem cD8:PSs X sts dK0:=⟨λ_ _ _ _ _ _ h=>h.elim⟩
end
abbrev TG:=V->St->Hp->(St->Hp->Prop)->Prop
abbrev TGs:=List V->St->Hp->(St->Hp->Prop)->Prop
structure PG (X:Cx)(target:Expr)(t:TG):Prop where
 mk ::
 run :
  ∀(aA:Eg) (s:Shared) (σ:St) (H:Hp) (v:V) (u:Value) (Q:St->Hp->Prop),Inv X aA σ H s->RelV v u->t v σ H Q ->
   wpAny (model X.prog X.w) X.A (assign target X.env u) (λ_ s'=>∃σ' H',Inv X aA σ' H' s'/\Q σ' H') X.xe s
instance {X:Cx} {target:Expr} {t:TG}:CoeFun (PG X target t) λ_=>
 (∀(aA:Eg) (s:Shared) (σ:St) (H:Hp) (v:V) (u:Value) (Q:St->Hp->Prop),Inv X aA σ H s->RelV v u->t v σ H Q ->
  wpAny (model X.prog X.w) X.A (assign target X.env u) (λ_ s'=>∃σ' H',Inv X aA σ' H' s'/\Q σ' H') X.xe s):=⟨PG.run⟩
structure PGs (X:Cx)(ts:List Expr)(t:TGs):Prop where
 mk ::
 run :
  ∀(aA:Eg) (s:Shared) (σ:St) (H:Hp) (vs:List V) (us:List Value) (Q:St->Hp->Prop),Inv X aA σ H s->Vals vs us->t vs σ H Q ->
   wpAny (model X.prog X.w) X.A (assignInOrder ((assignEach ts X.env).map (·.2)) us) (λ_ s'=>∃σ' H',Inv X aA σ' H' s'/\Q σ' H') X.xe s
instance {X:Cx} {ts:List Expr} {t:TGs}:CoeFun (PGs X ts t) λ_=>
 (∀(aA:Eg) (s:Shared) (σ:St) (H:Hp) (vs:List V) (us:List Value) (Q:St->Hp->Prop),Inv X aA σ H s->Vals vs us->t vs σ H Q ->
  wpAny (model X.prog X.w) X.A (assignInOrder ((assignEach ts X.env).map (·.2)) us) (λ_ s'=>∃σ' H',Inv X aA σ' H' s'/\Q σ' H') X.xe s):=⟨PGs.run⟩
abbrev dO7:=V->V->V->Hp->(Hp->Prop)->Prop
def dP3 (X:Cx)(t:dO7):Prop:=
 ∀(aA:Eg) (s:Shared) (σ:St) (H:Hp) (o i v:V) (ov iv u:Value) (Q:Hp->Prop),Inv X aA σ H s->RelV o ov->RelV i iv->RelV v u->t o i v H Q ->
  wpAny (model X.prog X.w) X.A (setItem ov iv u) (λ_ s'=>∃H',Inv X aA σ H' s'/\Q H') X.xe s
abbrev TIp:=V->V->Hp->VK->Prop
def PIp (X:Cx)(op:Operator)(t:TIp):Prop:=
 ∀(aA:Eg) (s:Shared) (σ:St) (H:Hp) (x y:V) (v u:Value) (Q:VK),Inv X aA σ H s->RelV x v->RelV y u->t x y H Q ->
  wpAny (model X.prog X.w) X.A (inplaceOp op v u) (EP X aA σ Q) X.xe s
section
variable {X:Cx}{pos:Pos}
def G7 (i:Nat):TG:=λv σ H Q=>Q (σ.set i (some v)) H
theorem K4 (hN:X.N.Nodup)(hi:X.N[i]? = some x)(z:Loc X.env.scope x)(w:X.fn x=true\/X.env.scope.names.lookup x=some .local:=by first | exact .inl rfl | exact .inr rfl | assumption):PG X (.Name x pos) (G7 i):=by
 refine⟨?_⟩;intro m s σ H v u Q I r h;exact wpAny_assign_Name (aX9 I hN hi z r (λY e=>⟨_,H,e,h⟩) w)
def bS0:TGs:=λvs σ H Q=>vs=[]/\Q σ H
def aH4 (t:TG)(u:TGs):TGs:=λvs σ H Q=>∃v r,vs=v::r/\t v σ H λσ' H'=>u r σ' H' Q
theorem S4:PGs X [] bS0:=by
 refine⟨?_⟩;intro w s σ H vs z Q I r h;obtain⟨e,h⟩:=h;subst e;cases r;exact assignInOrder_nil ⟨σ,H,I,h⟩
theorem E4 (h1:PG X e t)(Y:PGs X es u)
  (U:(assignEach (e::es) X.env).map (·.2)=assign e X.env::(assignEach es X.env).map (·.2):=by rfl):PGs X (e::es) (aH4 t u):=by
 refine⟨?_⟩;intro w s σ H vs R Q I r h;obtain⟨v,D,m,h⟩:=h;subst m;cases r with
 | cons r rr=>
  rw[U];refine assignInOrder_cons (thn (h1 w s σ H _ _ _ I r h) λ_ M ⟨N,H1,z,J⟩=>?_)
  exact Y w M N H1 _ _ Q z rr J
def cL9 (K:Frag)(n:Nat)(t:TGs):TG:=λv σ H Q=>∃a xs,v=.ref a/\SqT K H a xs/\xs.length=n/\t xs σ H Q
theorem Y5 (N:X.calm=true)(h:PGs X es t)
  (D:(assignEach es X.env).length=n:=by rfl) (w:(assignEach es X.env).findIdx? (·.1)=none:=by rfl):PG X (.Tuple es k pos) (cL9 X.K n t):=by
 refine⟨?_⟩;intro m s σ H v u Q I r z;obtain⟨a,xs,J,F,R,z⟩:=z;subst J;cases r;obtain⟨its,Y,B,hz⟩:=I.tuple F;refine assign_Tuple_tuple (I.ok.hd N) B (by simp[D,<- R,Y.length]) w λM P=>?_
 have U:Inv X m σ H {s with heap:=M}:=I.kept (t':=s.toks) λb o e=>P b o (Ab9 (Ab3 e)) e
 exact h m _ σ H xs _ Q U (by simpa using Y) z
def dL0 (to ti:TE)(t:dO7):TG:=λv σ H Q=>to σ H λo H1=>ti σ H1 λi H2=>t o i v H2 λH3=>Q σ H3
theorem bR0 (ho:PE X o to)(hi:PE X i ti)(M:dP3 X t)
  (J:∀v,assign (.Subscript o i pos) X.env v=(do
   let ov <- holding [v] (eval o X.env)
   let iv <- holding [v,ov] (eval i X.env)
   standAt pos
   holding [v,ov,iv] (setItem ov iv v)
   release [v,ov,iv] []):=by intro _;rfl):PG X (.Subscript o i pos) (dL0 to ti t):=by
 refine⟨?_⟩;intro e s σ H v u Q I r h;rw[J];refine Aa (Bk (thn (ho e s σ H _ I h) λov P ⟨x,H1,m,F,N⟩=>?_))
 refine Aa (Bk (thn (hi e P σ H1 _ m N) λiv s2 ⟨y,w,Y,B,R⟩=>?_))
 refine Aa (wpAny_standAt (Aa (Bk (thn (M e s2 σ w x y v ov iv u _ Y F B r R) λ_ s3 ⟨z,U,D⟩=>?_))))
 exact wpAny_release ⟨σ,z,U,D⟩
def aL7 (te:TE)(g:TG):TS:=λD σ H=>te σ H λx H1=>g x σ H1 D.nx
theorem aM0 (he:PE X e te)(m:PG X tg g)(Y:swapsWithSole [tg] e pos.line X.env=pure false:=by rfl)(U:swappedStores [tg] e X.env=pure none:=by rfl)
  (h1:(assignEach [tg] X.env).map (·.2)=[assign tg X.env]:=by rfl):PS X (.Assign [tg] e pos) (aL7 te g):=by
 refine⟨?_⟩;intro w s σ H D I h;refine wpAny_Assign_stores (thn (he w s σ H _ I h) λv N ⟨x,H1,z,M,J⟩=>?_) Y U
 rw[h1];exact thn (m w N σ H1 x v _ z M J) λ_ R q=>q
theorem aN5 (hN:X.N.Nodup)(hi:X.N[i]? = some x)(J:Loc X.env.scope x)(he:PE X e te)(U:swapsWith e (some (.Name x pos')) pos.line X.env=pure false:=by rfl)(Y:X.fn x=true\/X.env.scope.names.lookup x=some .local:=by first | exact .inl rfl | exact .inr rfl | assumption) :
  PS X (.Assign [.Name x pos'] e pos) (aL7 te (G7 i)):=by
 refine⟨?_⟩;intro m s σ H D I h;refine wpAny_Assign_Name (thn (he m s σ H _ I h) λv Q ⟨y,H1,w,R,M⟩=>?_) U
 exact aX9 w hN hi J R (λF z=>⟨_,H1,z,M⟩) Y
def dT2 (i:Nat)(te:TE)(ti:TIp):TS:=λD σ H=>∃x,σ[i]? = some (some x)/\te σ H λy H1=>ti x y H1 λz H2=>D.nx (σ.set i (some z)) H2
theorem dG2 (hN:X.N.Nodup)(hi:X.N[i]? = some x)(J:Loc X.env.scope x)(he:PE X e te)(ho:PIp X op ti)(hf:X.fn x=true\/X.env.scope.names.lookup x=some .local:=by first | exact .inl rfl | exact .inr rfl | assumption) :
  PS X (.AugAssign (.Name x pos') op e pos) (dT2 i te ti):=by
 refine⟨?_⟩;intro U s σ H D I h;obtain⟨v,e1,h⟩:=h;obtain⟨m,hn,hl⟩:=I.loc;have M:Vis X.env.scope x:=by rcases J with k | k;exact .inl k;exact .inr (.inl k)
 obtain⟨u,r,l⟩:=hl i x v hi e1 M;refine wpAny_AugAssign_Name ?_;have R:wpAny (model X.prog X.w) X.A (eval e X.env) (λw s₂=>wpAny (model X.prog X.w) X.A (inplaceOp op u w) (λr s₃=>wpAny (model X.prog X.w) X.A (storeName X.env x r) (λ_=>SP X U D .next) X.xe s₃) X.xe s₂) X.xe s:=by
  refine thn (he U s σ H _ I h) λw s1 ⟨y,H1,F,r1,q1⟩=>?_
  refine thn (ho U s1 σ H1 v y u w _ F r r1 q1) λz s2 ⟨zv,Q,B,r2,q2⟩=>?_
  exact aX9 B hN hi J r2 (λs3 P=>⟨_,Q,P,q2⟩) hf
 rcases l with⟨hk,hm⟩ | ⟨hk,c,hc,Y⟩
 .exact wpAny_loadName_local I.ok.kind hk hn hm R
 .rcases hk with hk | hk
  .exact wpAny_loadName_cell I.ok.kind hk hc Y R
  .rcases J with k | k
   .have:X.env.scope.names.lookup x=some .free:=hk
    rw[k]at this;cases this
   .have:X.env.scope.names.lookup x=some .free:=hk
    rw[k]at this;cases this
def ipI (f:Int->Int->Int):TIp:=λx y H Q=>∃i j,x=.int i/\y=.int j/\Q (.int (f i j)) H
theorem dJ9:PIp X .Add (ipI λi j=>i+j):=by
 intro Y s σ H x y v u Q I z m h;obtain⟨i,j,e,w,q⟩:=h;subst e;subst w;obtain⟨t,rfl⟩:=z;obtain⟨U,rfl⟩:=m;exact iadd_int ⟨.int _,H,I.tok _,⟨_,rfl⟩,q⟩
def cK8 (c:TT)(tb:TS):TS:=λD σ H=>∃W:Nat->St->Hp->Prop,(∃m,W m σ H)/\∀m σ H,W m σ H ->
 c σ H λb H1=>if b=true then ∃N:St->Hp->Prop,(∀σ' H',N σ' H'->∃m',m'<m/\W m' σ' H')/\tb {D with nx:=N,ct:=N,bk:=D.nx} σ H1 else D.nx σ H1
theorem e5 (hp:PassesOwn (model X.prog X.w) X.A X.env X.xe)(hc:PT X c tc)(hb:PSs X body tb):PS X (.While c body [] pos) (cK8 tc tb):=by
 refine⟨?_⟩;intro M s σ H D I h;obtain⟨W,⟨m0,w0⟩,turn⟩:=h;refine wpAny_While (codeAny_whileLoop (λn s'=>∃σ' B,Inv X M σ' B s'/\W n σ' B) ?_ m0 ⟨σ,H,I,w0⟩)
 rintro n s1 ⟨U,H1,I1,w1⟩;refine wpAny_passesOwn hp (thn (hc M s1 U H1 _ I1 (turn n U H1 w1)) λb s2 ⟨P,I2,m⟩=>?_)
 cases b with
 | true=>
  obtain⟨N,hN,m⟩:=m;rw[Ae rfl];refine wpAny_passesOwn hp (thn (hb M s2 U P _ I2 m) λf s3 Y=>?_)
  cases f with
  | next=>
   obtain⟨z,e,J,F⟩:=Y;obtain⟨Q,R,w3⟩:=hN z e F;exact⟨Q,R,z,e,J,w3⟩
  | cont=>
   obtain⟨z,e,J,F⟩:=Y;obtain⟨Q,R,w3⟩:=hN z e F;exact⟨Q,R,z,e,J,w3⟩
  | brk=>exact Y
  | ret v=>exact Y
 | false=>
  rw[Ac Ai];exact wpAny_execs_nil ⟨U,P,I2,m⟩
end
structure It where
 go:Nat->Hp->Prop
 yld:Nat->Hp->V->Hp->Prop
 stop:Nat->Hp->Prop
def aX2 (X:Cx)(aA:Eg)(H:Hp)(b:Addr):Prop:=
 H b=none/\b≠X.env.locals/\b∉X.fs/\(b∈X.ex\/X.s₀.heap.objs.size<=b)/\(∀x c,X.env.cells.lookup x=some c->c≠b)/\∀p∈X.pn++aA,p.1≠b
theorem Inv.fpOk (I:Inv X aA σ H s)(w:s.heap.objs.size<=b)(m:H' b=none):aX2 X aA H' b:=by
 refine⟨m,Nat.ne_of_gt (Ab8 I.lt w),I.nofs w,.inr (Bi I.sz w),λx c e z=>?_,λp hp z=>?_⟩
 .obtain⟨v,q⟩:=I.cell x c e;exact absurd (Ab8 q.lt (by rw[z];exact w)) (Ad9 _)
 .exact absurd (Ab8 (Ab3 (I.pin p hp).1) (by rw[z];exact w)) (Ad9 _)
structure aY8 (P:Program)(w:World)(K:Frag)(tg:Expr)(J:It)(fp:List Addr)(it:Addr)(tn:Nat->Heap->Prop):Prop where
 mem:it∈fp
 obj:∀i h,tn i h->∀b∈fp,∃o,h.get? b=some o/\∀v,o.data≠.cell v
 keep:∀i h h',tn i h->(∀b∈fp,∀o,h.get? b=some o->h'.get? b=some o)->tn i h'
 item:∀(X:Cx),X.prog=P->X.w=w->X.K=K->X.calm=true->∀(i:Nat) (aA:Eg) (s:Shared) (σ:St) (H:Hp) (E:Ef),Inv X aA σ H s->(∀b∈fp,aX2 X aA H b)->tn i s.heap->J.go i H ->
  wpAny (model P w) X.A (pyNext (.ref it)) (λr s1=>∃u,r=some u /\
   wpAny (model P w) X.A (letOwnedTupleGo tg (.ref it) u) (λ_ s2=>∃x H',Inv X aA σ H' s2/\RelV x u/\J.yld i H x H'/\tn (i+1) s2.heap/\∀b∈fp,H' b=none) E s1) E s
 done:∀(X:Cx),X.prog=P->X.w=w->X.K=K->X.calm=true->∀(i:Nat) (aA:Eg) (s:Shared) (σ:St) (H:Hp) (E:Ef),Inv X aA σ H s->(∀b∈fp,aX2 X aA H b)->tn i s.heap->J.stop i H ->
  wpAny (model P w) X.A (pyNext (.ref it)) (λr s1=>r=none/\Inv X aA σ H s1) E s
 self:∀(A:Around) (i:Nat) (s:Shared) (Q:Ef) (E:Ef),tn i s.heap->Q (.ref it) s->wpAny (model P w) A (pyIter (.ref it)) Q E s
abbrev TI:=St->Hp->(It->Hp->Prop)->Prop
def PIE (X:Cx)(aA:Eg)(σ:St)(tg:Expr)(R:It->Hp->Prop)(itv:Value)(s2:Shared):Prop:=
 ∃(it:Addr) (fp:List Addr) (tn:Nat->Heap->Prop) (J:It) (H':Hp),itv=.ref it/\Inv X aA σ H' s2/\aY8 X.prog X.w X.K tg J fp it tn/\tn 0 s2.heap/\(∀b∈fp,aX2 X aA H' b)/\R J H'
structure PI (X:Cx)(tg iter:Expr)(wi:TI):Prop where
 mk ::
 run :
  ∀(aA:Eg) (s:Shared) (σ:St) (H:Hp) (R:It->Hp->Prop),Inv X aA σ H s->wi σ H R ->
   wpAny (model X.prog X.w) X.A (eval iter X.env) (λv s1=>wpAny (model X.prog X.w) X.A (pyIter v) (PIE X aA σ tg R) X.xe s1) X.xe s
instance {X:Cx} {tg iter:Expr} {wi:TI}:CoeFun (PI X tg iter wi) λ_=>
 (∀(aA:Eg) (s:Shared) (σ:St) (H:Hp) (R:It->Hp->Prop),Inv X aA σ H s->wi σ H R ->
  wpAny (model X.prog X.w) X.A (eval iter X.env) (λv s1=>wpAny (model X.prog X.w) X.A (pyIter v) (PIE X aA σ tg R) X.xe s1) X.xe s):=⟨PI.run⟩
theorem cD0 (ho:s.heap.get? it=some o)(w:o.cls=.type n)(z:o.data=.fields vs)
  (m:["enumerate", "zip", "dict_itemiterator", "dict_reverseitemiterator", "odict_iterator", "itertools.zip_longest", "itertools.pairwise"].contains n=false) (e:Q () s):wpAny M A (letOwnedTupleGo tg (.ref it) u) Q E s:=by
 unfold letOwnedTupleGo;cases tg <;> first
  | exact Ab e
  | (cases u <;> first
    | exact Ab e
    | (refine Aa (wpAny_load ho ?_)
       rw[w,z];show wpAny M A (if(["enumerate", "zip", "dict_itemiterator", "dict_reverseitemiterator", "odict_iterator", "itertools.zip_longest", "itertools.pairwise"].contains n&&vs[0]? == some (rawInt _))=true then _ else _) Q E s;rw[Ac (by intro h;rw[m,Bool.false_and]at h;cases h)]
       exact Ab e))
def Itl (K:Frag)(a:Addr):It:=
 ⟨λi H=>∃xs x,SqL K H a xs/\xs[i]? = some x,λi H x H'=>H'=H/\∀xs,SqL K H a xs->xs[i]? = some x,λi H=>∃xs,SqL K H a xs/\xs.length<=i⟩
def Itt (K:Frag)(a:Addr):It:=
 ⟨λi H=>∃xs x,SqT K H a xs/\xs[i]? = some x,λi H x H'=>H'=H/\∀xs,SqT K H a xs->xs[i]? = some x,λi H=>∃xs,SqT K H a xs/\xs.length<=i⟩
def Itr (lo:Int)(n:Nat):It:=⟨λi _=>i<n,λi H x H'=>H'=H/\x=.int (lo+i),λi _=>n<=i⟩
theorem cG3 {P:Program}{w:World}{K:Frag}{tg:Expr}(a it:Addr):aY8 P w K tg (Itl K a) [it] it (λi h=>h.IsListIter it a i) where
 mem:=by simp
 obj:=λi h st b m=>by
  have e:b=it:=by simpa using m
  subst e;obtain⟨o,e,c,d⟩:=st;exact⟨o,e,λv z=>by rw[d]at z;cases z⟩
 keep:=λi h U st k=>st.at λo e=>k it (by simp) o e
 item:=by
  intro X F hw D hc i aA s σ H E I J st B;subst F hw D;obtain⟨xs,x,M,hx⟩:=B;obtain⟨its,rv,p,hz⟩:=I.list M;obtain⟨u,hu,ru⟩:=rv.get hx;obtain⟨N,f1,f2,f3,R,Q⟩:=J it (by simp)
  refine wpAny_pyNext_list_item st p.isList (x:=u) (by simpa using hu) λU Y sb=>?_
  have I1:Inv X aA σ H {s with heap:=U}:=I.turned (t':=s.toks) (λb o m e=>(sb.2 b m).trans e) N f1 f3 R Q
  obtain⟨o,e,c,d⟩:=id Y;exact⟨u,rfl,cD0 (s:={s with heap:=U}) e c d (by decide) ⟨x,H,I1,ru,⟨rfl,λys hy=>by rw[I.list_inj hy M];exact hx⟩,Y,λb m=>(J b m).1⟩⟩
 done:=by
  intro X F hw D hc i aA s σ H E I J st B;subst F hw D;obtain⟨xs,M,hx⟩:=B;obtain⟨its,rv,p,hz⟩:=I.list M;obtain⟨N,f1,f2,f3,R,Q⟩:=J it (by simp)
  have hl:=rv.length
  exact wpAny_pyNext_list_end (I.ok.hd hc) st p.isList (by simp;lia) λU eb=>⟨rfl,I.turned (t':=s.toks) (λb o m e=>eb b o m e) N f1 f3 R Q⟩
 self:=λ_ _ _ _ _ st h=>wpAny_pyIter_listiter st h
theorem bU2 {P:Program}{w:World}{K:Frag}{tg:Expr}(a it:Addr):aY8 P w K tg (Itt K a) [it] it (λi h=>h.IsTupleIter it a i) where
 mem:=by simp
 obj:=λi h st b m=>by
  have e:b=it:=by simpa using m
  subst e;obtain⟨o,e,c,d⟩:=st;exact⟨o,e,λv z=>by rw[d]at z;cases z⟩
 keep:=λi h U st k=>st.at λo e=>k it (by simp) o e
 item:=by
  intro X F hw D hc i aA s σ H E I J st B;subst F hw D;obtain⟨xs,x,M,hx⟩:=B;obtain⟨its,rv,p,hz⟩:=I.tuple M;obtain⟨u,hu,ru⟩:=rv.get hx;obtain⟨N,f1,f2,f3,R,Q⟩:=J it (by simp)
  refine wpAny_pyNext_tuple_item st (show s.heap.IsTuple a its.toArray from p) (x:=u) (by simpa using hu) λU Y sb=>?_
  have I1:Inv X aA σ H {s with heap:=U}:=I.turned (t':=s.toks) (λb o m e=>(sb.2 b m).trans e) N f1 f3 R Q
  obtain⟨o,e,c,d⟩:=id Y;exact⟨u,rfl,cD0 (s:={s with heap:=U}) e c d (by decide) ⟨x,H,I1,ru,⟨rfl,λys hy=>by rw[I.tuple_inj hy M];exact hx⟩,Y,λb m=>(J b m).1⟩⟩
 done:=by
  intro X F hw D hc i aA s σ H E I J st B;subst F hw D;obtain⟨xs,M,hx⟩:=B;obtain⟨its,rv,p,hz⟩:=I.tuple M;obtain⟨N,f1,f2,f3,R,Q⟩:=J it (by simp)
  have hl:=rv.length
  exact wpAny_pyNext_tuple_end (I.ok.hd hc) st (show s.heap.IsTuple a its.toArray from p) (by simp;lia) λU eb=>⟨rfl,I.turned (t':=s.toks) (λb o m e=>eb b o m e) N f1 f3 R Q⟩
 self:=λ_ _ _ _ _ st h=>wpAny_pyIter_tupleiter st h
theorem bU3 {P:Program}{w:World}{K:Frag}{tg:Expr}(it:Addr)(lo:Int)(n:Nat):aY8 P w K tg (Itr lo n) [it] it (λi h=>IsRangeIter h it (lo+(i:Nat)*1) ((n:Int)-(i:Nat)) 1) where
 mem:=by simp
 obj:=λi h st b m=>by
  have e:b=it:=by simpa using m
  subst e;exact⟨_,st,λv z=>by
   have z':Data.fields _=Data.cell v:=z
   cases z'⟩
 keep:=λi h U st k=>k it (by simp) _ st
 item:=by
  intro X D hw Q F i aA s σ H E I J st B;subst D hw Q;obtain⟨M,f1,f2,f3,N,R⟩:=J it (by simp)
  have W:=Walks.range (prog:=X.prog) (w:=X.w) (I.ok.hd F) it lo 1 n
  refine W.item i s _ _ B st λv U tk hv Y kk=>?_
  obtain⟨t,rfl⟩:=hv;have I1:Inv X aA σ H {s with heap:=U,toks:=tk}:=I.turned (λb o m e=>kk b o (by simpa using m) e) M f1 f3 N R
  refine⟨_,rfl,cD0 (s:={s with heap:=U,toks:=tk}) (n := "range_iterator") Y rfl rfl (by decide) ⟨.int (lo+i),H,I1,⟨t,?_⟩,⟨rfl,rfl⟩,Y,λb m=>(J b m).1⟩⟩
  rw[Int.mul_one]
 done:=by
  intro X D hw Q F i aA s σ H E I J st B;subst D hw Q;obtain⟨M,f1,f2,f3,N,R⟩:=J it (by simp)
  exact wpAny_pyNext_range_end (I.ok.hd F) st (by have:n<=i:=B;lia) λU eb=>⟨rfl,I.turned (t':=s.toks) (λb o m e=>eb b o m e) M f1 f3 N R⟩
 self:=λ_ _ _ _ _ st h=>wpAny_pyIter_rangeiter st h
section
variable {X:Cx}{tg:Expr}
def dD7 (K:Frag)(tl:TE):TI:=λσ H R=>tl σ H λx H1=>∃a,x=.ref a/\(∃xs,SqL K H1 a xs)/\R (Itl K a) H1
def dP6 (K:Frag)(tl:TE):TI:=λσ H R=>tl σ H λx H1=>∃a,x=.ref a/\(∃xs,SqT K H1 a xs)/\R (Itt K a) H1
theorem S7 {l:Expr}{tl:TE}(U:PE X l tl):PI X tg l (dD7 X.K tl):=by
 refine⟨?_⟩;intro m s σ H R I h;refine thn (U m s σ H _ I h) λv z ⟨x,H1,w,N,M⟩=>?_
 obtain⟨a,e,⟨xs,J⟩,q⟩:=M;subst e;cases N;obtain⟨its,D,p,Q⟩:=w.list J;refine wpAny_pyIter_list p.isList ?_;refine⟨z.heap.objs.size,[z.heap.objs.size],_,_,H1,rfl,w.kept (t':=z.toks) λb o e=>Aa6 _ e,cG3 a _,⟨_,Ac3 _ rfl,rfl,rfl⟩,λb Y=>?_,q⟩
 have e:b=z.heap.objs.size:=by simpa using Y
 subst e;exact w.fpOk (Aa7 _) (w.hok.fresh (Aa7 _))
theorem Y6 {l:Expr}{tl:TE}(U:PE X l tl):PI X tg l (dP6 X.K tl):=by
 refine⟨?_⟩;intro m s σ H R I h;refine thn (U m s σ H _ I h) λv w ⟨x,H1,z,N,M⟩=>?_
 obtain⟨a,e,⟨xs,J⟩,q⟩:=M;subst e;cases N;obtain⟨its,D,p,Q⟩:=z.tuple J;refine wpAny_pyIter_tuple (show w.heap.IsTuple a its.toArray from p) ?_
 refine⟨w.heap.objs.size,[w.heap.objs.size],_,_,H1,rfl,z.kept (t':=w.toks) λb o e=>Aa6 _ e,bU2 a _,⟨_,Ac3 _ rfl,rfl,rfl⟩,λb Y=>?_,q⟩
 have e:b=w.heap.objs.size:=by simpa using Y
 subst e;exact z.fpOk (Aa7 _) (z.hok.fresh (Aa7 _))
theorem cR8 {aA:Eg}{σ:St}{H:Hp}{s:Shared}{R:It->Hp->Prop}{E:Ef}{lo hi:Int}{t u v:Tok}{tk:Nat}(I:Inv X aA σ H s)(h1 : -(2^62)<=lo)(U:lo<2^62)(J : -(2^62)<=hi)(M:hi<2^62)
  (q:R (Itr lo (hi-lo).toNat) H):wpAny (model X.prog X.w) X.A (pyIter (.ref s.heap.objs.size)) (PIE X aA σ tg R) E {s with heap:=s.heap.push {cls:=.type "range",data:=.fields #[.int lo t,.int hi u,.int 1 v]},toks:=tk}:=by
 refine wpAny_pyIter_range (IsRange.new ..) (small_one h1 U J M) ?_;have z:Inv X aA σ H {s with heap:=s.heap.push {cls:=.type "range",data:=.fields #[.int lo t,.int hi u,.int 1 v]},toks:=tk}:=I.kept λb o e=>Aa6 _ e
 refine⟨(s.heap.push {cls:=.type "range",data:=.fields #[.int lo t,.int hi u,.int 1 v]}).objs.size,[(s.heap.push {cls:=.type "range",data:=.fields #[.int lo t,.int hi u,.int 1 v]}).objs.size],_,_,H,rfl,
  z.kept (t':=tk) λb o e=>Aa6 _ e,bU3 _ lo (hi-lo).toNat,?_,λb N=>?_,q⟩
 .have m:lo+((0:Nat):Int)*1=lo:=by simp
  have Y:(((hi-lo).toNat:Nat):Int)-((0:Nat):Int)=Builtin.Range.rangeSize lo hi 1:=by rw[rangeSize_one];split <;> lia
  show IsRangeIter _ _ (lo+((0:Nat):Int)*1) ((((hi-lo).toNat:Nat):Int)-((0:Nat):Int)) 1
  rw[m,Y];exact Ac3 _ rfl
 .have e:b=(s.heap.push {cls:=.type "range",data:=.fields #[.int lo t,.int hi u,.int 1 v]}).objs.size:=by simpa using N
  subst e;exact z.fpOk (Aa7 _) (z.hok.fresh (Aa7 _))
def dE6 (ta:TA):TI:=λσ H R=>ta σ H λvs H1=>∃j:Int,vs=[.int j] /\ -(2^62)<=j/\j<2^62/\R (Itr 0 j.toNat) H1
theorem G9 {a:Expr}{ta:TA}{p pos:Pos}(U:Gl X "range")(J:X.mg "range" = none)(Y:PA X [a] ta)(M:starEach [a] X.env=[(false,eval a X.env)]:=by rfl):PI X tg (.Call (.Name "range" p) [a] [] pos) (dE6 ta):=by
 refine⟨?_⟩;intro m s σ H R I h;refine Call_ (m5 I U J boot_range (Bv (thn (Y pos m s σ H _ I h) λF D ⟨vs,H1,z,Q,w⟩=>?_) M rfl))
 obtain⟨j,e,w,N,q⟩:=w;subst e;cases Q with
 | cons r rr=>
  cases rr
  obtain⟨t,rfl⟩:=r;exact call_range_1 (cR8 z (by lia) (by lia) w N (by simpa using q))
def dN1 (wi:TI)(g:TG)(tb:TS):TS:=λD σ H=>wi σ H λJ H1=>∃W:Nat->Nat->St->Hp->Prop,(∃m,W 0 m σ H1)/\∀i m σ H,W i m σ H ->
 (J.stop i H/\D.nx σ H)\/(J.go i H/\∃N:St->Hp->Prop,(∀σ' H',N σ' H'->∃m',m'<m/\W (i+1) m' σ' H')/\∀x H',J.yld i H x H'->g x σ H' λσ2 H2=>tb {D with nx:=N,ct:=N,bk:=D.nx} σ2 H2)
def i9 (fp:List Addr)(h:Heap):List (Addr×Obj):=fp.filterMap λb=>(h.get? b).map λo=>(b,o)
theorem k9 (w:b∈fp)(e:h.get? b=some o):(b,o)∈i9 fp h:=List.mem_filterMap.mpr ⟨b,w,by rw[e];rfl⟩
theorem aZ8 (hp:p∈i9 fp h):p.1∈fp/\h.get? p.1=some p.2:=by
 obtain⟨b,w,e⟩:=List.mem_filterMap.mp hp;cases q:h.get? b with
 | none=>rw[q]at e;cases e
 | some o=>
  rw[q]at e;have e':(b,o)=p:=Ab4 e;subst e';exact⟨w,q⟩
theorem Inv.pinned (I:Inv X aA σ H s)(Y:∀b∈fp,aX2 X aA H b)(ho:∀b∈fp,∃o,s.heap.get? b=some o/\∀v,o.data≠.cell v):Inv X (aA++i9 fp s.heap) σ H s:=
 I.pins_of λp hp=>(Aa0.mp hp).elim (λz=>I.pin p (Ac1 _ z)) λz=>by
  obtain⟨w,e⟩:=aZ8 z;obtain⟨m,f1,f2,_⟩:=Y p.1 w;obtain⟨o,e',d⟩:=ho p.1 w;rw[e]at e';cases e';exact⟨e,m,f1,f2,d⟩
theorem Inv.unpinned (I:Inv X (aA++pl) σ H s):Inv X aA σ H s:=I.pins_of λp hp=>I.pin p (Ac1 _ (Al _ hp))
theorem G3 (hp:PassesOwn (model X.prog X.w) X.A X.env X.xe)(hc:X.calm=true)(hi:PI X tg iter wi)(hg:PG X tg g)(M:PSs X body tb)
  (hs:∀x,foldedSetIterable iter X.env x=pure x:=by intro _;rfl):PS X (.For tg iter body [] pos) (dN1 wi g tb):=by
 refine⟨?_⟩;intro P s σ H D I h;refine wpAny_For (thn (hi P s σ H _ I h) λv s1 h1=>thn h1 λitv s2 h2=>?_) hs
 obtain⟨it,fp,tn,J,H2,e,I2,T,st2,f2,W,⟨m0,w0⟩,turn⟩:=h2;subst e;have R:∀{F:Hp},(∀b∈fp,F b=none)->∀b∈fp,aX2 X P F b:=λhn b M=>⟨hn b M,(f2 b M).2⟩
 refine codeAny_forLoop_any (λn s'=>∃i σ' F,Inv X P σ' F s'/\tn i s'.heap/\(∀b∈fp,F b=none)/\W i n σ' F) ?_ m0 ⟨0,σ,H2,I2,st2,λb M=>(f2 b M).1,w0⟩
 rintro n s3 ⟨i,σ3,H3,I3,st3,fr3,w3⟩;rcases turn i n σ3 H3 w3 with⟨stop,qn⟩ | ⟨go,N,hN,step⟩
 .refine wpAny_passesOwn hp (thn (T.done X rfl rfl rfl hc i P s3 σ3 H3 X.xe I3 (R fr3) st3 stop) λr s4 ⟨hr,I4⟩=>?_)
  subst hr;exact wpAny_execs_nil ⟨σ3,H3,I4,qn⟩
 .refine wpAny_passesOwn hp (thn (T.item X rfl rfl rfl hc i P s3 σ3 H3 X.xe I3 (R fr3) st3 go) λr s4 ⟨u,hr,h4⟩=>?_)
  subst hr;refine wpAny_passesOwn hp (thn h4 λ_ s5 ⟨x,H5,I5,r5,y5,st5,fr5⟩=>?_)
  have I5':=I5.pinned (R fr5) (T.obj _ _ st5)
  refine wpAny_passesOwn hp (thn (hg _ s5 σ3 H5 x u _ I5' r5 (step x H5 y5)) λ_ s6 ⟨σ6,H6,I6,q6⟩=>?_)
  refine wpAny_passesOwn hp (thn (M _ s6 σ6 H6 _ I6 q6) λf s7 B=>?_)
  have U:∀{Q:St} {z:Hp},Inv X (P++i9 fp s5.heap) Q z s7->N Q z->∃m,m<n/\∃i σ' F,Inv X P σ' F s7/\tn i s7.heap/\(∀b∈fp,F b=none)/\W i m σ' F:=λ{Q z} Y n7=>by
   obtain⟨m',hm,w7⟩:=hN Q z n7;refine⟨m',hm,i+1,Q,z,Y.unpinned,T.keep _ _ _ st5 λb M o e=>(Y.pin (b,o) (Ac1 _ (Ac1 _ (k9 M e)))).1,λb M=>?_,w7⟩
   obtain⟨o,e,d⟩:=T.obj _ _ st5 b M;exact(Y.pin (b,o) (Ac1 _ (Ac1 _ (k9 M e)))).2.1
  cases f with
  | next=>obtain⟨Q,z,Y,n7⟩:=B;exact U Y n7
  | cont=>obtain⟨Q,z,Y,n7⟩:=B;exact U Y n7
  | brk=>obtain⟨Q,z,Y,B⟩:=B;exact⟨Q,z,Y.unpinned,B⟩
  | ret v=>obtain⟨x7,Q,z,Y,r7,B⟩:=B;exact⟨x7,Q,z,Y.unpinned,r7,B⟩
end
abbrev R2:=V->V->Hp->VK->Prop
def OpR (X:Cx)(f:Value->Value->Sem Value)(r:R2):Prop:=
 ∀(aA:Eg) (s:Shared) (σ:St) (H:Hp) (x y:V) (v u:Value) (Q:VK),Inv X aA σ H s->RelV x v->RelV y u->r x y H Q ->
  wpAny (model X.prog X.w) X.A (f v u) (EP X aA σ Q) X.xe s
def UnR (X:Cx)(f:Value->Sem Value)(r:V->Hp->VK->Prop):Prop:=
 ∀(aA:Eg) (s:Shared) (σ:St) (H:Hp) (x:V) (v:Value) (Q:VK),Inv X aA σ H s->RelV x v->r x H Q ->
  wpAny (model X.prog X.w) X.A (f v) (EP X aA σ Q) X.xe s
def P6 (X:Cx)(f:Value)(r:List V->Hp->VK->Prop):Prop:=
 ∀(aA:Eg) (s:Shared) (σ:St) (H:Hp) (xs:List V) (us:List Value) (Q:VK),Inv X aA σ H s->Vals xs us->r xs H Q ->
  wpAny (model X.prog X.w) X.A (call f us) (EP X aA σ Q) X.xe s
def tOp (r:R2)(ta tb:TE):TE:=λσ H Q=>ta σ H λx H1=>tb σ H1 λy H2=>r x y H2 Q
def tUn (r:V->Hp->VK->Prop)(ta:TE):TE:=λσ H Q=>ta σ H λx H1=>r x H1 Q
def rI (C:Int->Int->Prop)(g:Int->Int->V):R2:=λx y H Q=>∃i j,x=.int i/\y=.int j/\C i j/\Q (g i j) H
def rI0 (g:Int->Int->V):R2:=λx y H Q=>∃i j,x=.int i/\y=.int j/\Q (g i j) H
def rU (g:Int->V):V->Hp->VK->Prop:=λx H Q=>∃i,x=.int i/\Q (g i) H
section
variable {X:Cx}{a b c:Expr}{ta tb tc:TE}{pos:Pos}
theorem dM1 (m:PE X a ta)(Y:PE X b tb){aA:Eg}{s:Shared}{σ:St}{H:Hp}{R:V->V->Hp->Prop}(I:Inv X aA σ H s)
  (h:ta σ H λx H1=>tb σ H1 λy H2=>R x y H2) {Q:Ef} {f:Value->Value->Sem Value}
  (U:∀v u s2 x y H2,Inv X aA σ H2 s2->RelV x v->RelV y u->R x y H2->wpAny (model X.prog X.w) X.A (f v u) Q X.xe s2) :
  wpAny (model X.prog X.w) X.A (eval a X.env) (λv s₁=>wpAny (model X.prog X.w) X.A (eval b X.env) (λu s₂=>wpAny (model X.prog X.w) X.A (f v u) Q X.xe s₂) X.xe s₁) X.xe s:=by
 refine thn (m aA s σ H _ I h) λv F ⟨x,H1,e,N,J⟩=>?_
 refine thn (Y aA F σ H1 _ e J) λu s2 ⟨y,H2,z,D,M⟩=>?_
 exact U v u s2 x y H2 z N D M
theorem B4 (ho:OpR X (binaryOp op) r)(m:PE X a ta)(Y:PE X b tb):PE X (.BinOp a op b pos) (tOp r ta tb):=by
 refine⟨?_⟩;intro z s σ H Q I h;exact wpAny_BinOp (dM1 m Y I h λv u M x y e w U J q=>ho z M σ e x y v u Q w U J q)
theorem aO9 (ho:UnR X (unaryOp op) r)(z:PE X a ta):PE X (.UnaryOp op a pos) (tUn r ta):=by
 refine⟨?_⟩;intro e s σ H Q I h;exact UnaryOp_ (thn (z e s σ H _ I h) λv U ⟨x,H1,w,Y,m⟩=>ho e U σ H1 x v Q w Y m)
theorem opI {f:Value->Value->Sem Value}{C:Int->Int->Prop}{g:Int->Int->Int}
  (e:∀(i j:Int) (t u:Tok) (s:Shared) (Q:Ef) (E:Ef),C i j->Q (.int (g i j) s.toks) {s with toks:=s.toks+1}->wpAny (model X.prog X.w) X.A (f (.int i t) (.int j u)) Q E s) :
  OpR X f (rI C λi j=>.int (g i j)):=by
 intro J s σ H x y v u Q I m Y h;obtain⟨i,j,rfl,rfl,z,q⟩:=h;obtain⟨t,rfl⟩:=m;obtain⟨U,rfl⟩:=Y;exact e i j t U s _ _ z ⟨.int (g i j),H,I.tok _,⟨_,rfl⟩,q⟩
theorem dP2 {f:Value->Value->Sem Value}{g:Int->Int->Int}
  (e:∀(i j:Int) (t u:Tok) (s:Shared) (Q:Ef) (E:Ef),Q (.int (g i j) s.toks) {s with toks:=s.toks+1}->wpAny (model X.prog X.w) X.A (f (.int i t) (.int j u)) Q E s) :
  OpR X f (rI0 λi j=>.int (g i j)):=by
 intro U s σ H x y v u Q I z m h;obtain⟨i,j,rfl,rfl,q⟩:=h;obtain⟨t,rfl⟩:=z;obtain⟨Y,rfl⟩:=m;exact e i j t Y s _ _ ⟨.int (g i j),H,I.tok _,⟨_,rfl⟩,q⟩
theorem dM6 {f:Value->Value->Sem Value}{g:Int->Int->Bool}
  (e:∀(i j:Int) (t u:Tok) (s:Shared) (Q:Ef) (E:Ef),Q (.bool (g i j)) s->wpAny (model X.prog X.w) X.A (f (.int i t) (.int j u)) Q E s) :
  OpR X f (rI0 λi j=>.bl (g i j)):=by
 intro U s σ H x y v u Q I z m h;obtain⟨i,j,rfl,rfl,q⟩:=h;obtain⟨t,rfl⟩:=z;obtain⟨Y,rfl⟩:=m;exact e i j t Y s _ _ ⟨.bl (g i j),H,I,rfl,q⟩
def dW4 (i j:Int):Prop:=0<j/\j<1073741824
theorem G4:OpR X (binaryOp .Add) (rI0 λi j=>.int (i+j)):=dP2 λ_ _ _ _ _ _ _ q=>add_int q
theorem N4:OpR X (binaryOp .Sub) (rI0 λi j=>.int (i-j)):=dP2 λ_ _ _ _ _ _ _ q=>sub_int q
theorem aA9:OpR X (binaryOp .FloorDiv) (rI dW4 λi j=>.int (i / j)):=opI λi j _ _ _ _ _ e q=>by
 have h1:(0:Int)<j:=e.1
 have w:j<1073741824:=e.2
 exact floordiv_int (by lia) (by rw[Int.fdiv_eq_ediv_of_nonneg i (by lia)];exact q) (.inl (PyProof.noPylong_small (by lia)))
theorem U1:OpR X (binaryOp .Mod) (rI (λ_ j=>0<j) λi j=>.int (i % j)):=opI λi j _ _ _ _ _ e q=>by
 have h1:(0:Int)<j:=e
 exact mod_int' (by lia) (by rw[Int.fmod_eq_emod_of_nonneg i (by lia)];exact q)
theorem unI {f:Value->Sem Value}{g:Int->Int}
  (e:∀(i:Int) (t:Tok) (s:Shared) (Q:Ef) (E:Ef),Q (.int (g i) s.toks) {s with toks:=s.toks+1}->wpAny (model X.prog X.w) X.A (f (.int i t)) Q E s) :
  UnR X f (rU λi=>.int (g i)):=by
 intro m s σ H x v Q I z h;obtain⟨i,rfl,q⟩:=h;obtain⟨t,rfl⟩:=z;exact e i t s _ _ ⟨.int (g i),H,I.tok _,⟨_,rfl⟩,q⟩
theorem w9:UnR X (unaryOp .USub) (rU λi=>.int (-i)):=unI λ_ _ _ _ _ q=>neg_int q
end
def dU3:V->V->Bool
 | .non,.non=>true | .non,.int _=>true | .int _,.non=>true | .non,.bl _=>true | .bl _,.non=>true | .non,.str _=>true | .str _,.non=>true
 | .int _,.int _=>true | .bl _,.bl _=>true | .str _,.str _=>true | .byt _,.byt _=>true
 | .int _,.str _=>true | .str _,.int _=>true | .bl _,.str _=>true | .str _,.bl _=>true
 | _,_=>false
def rEq:R2:=λx y H Q=>dU3 x y=true/\Q (.bl (decide (x=y))) H
def rNe:R2:=λx y H Q=>dU3 x y=true/\Q (.bl (!decide (x=y))) H
theorem bX0:decide (V.int i=V.int j)=(i==j):=by
 rw[Dh]
 simp
theorem cL7:decide (V.bl i=V.bl j)=(i==j):=by
 rw[Dh]
 simp
theorem bX7:decide (V.str i=V.str j)=(i==j):=by
 rw[Dh]
 simp
theorem bY8:decide (V.byt i=V.byt j)=(i.toList==j.toList):=by
 rw[Dh];cases i;cases j
 simp
section
variable {X:Cx}{a b c:Expr}{ta tb tc:TE}{pos:Pos}
theorem E6 (I:Inv X aA σ H s)(q:Q (.bl k) H)(e:k=k'):EP X aA σ Q (.bool k') s:=by
 subst e;exact⟨.bl k,H,I,rfl,q⟩
theorem bB5:OpR X (compareOp .Eq) rEq:=by
 intro Y s σ H x y v u Q I m e h;obtain⟨z,q⟩:=h;cases x with
 | non=>
  cases m
  cases y with
  | non=>cases e;exact PySem.EqNone.eq_none_none (E6 I q (by simp))
  | bl j=>cases e;exact PySem.EqNone.eq_none_bool (E6 I q (by simp))
  | int j=>obtain⟨w,rfl⟩:=e;exact PySem.EqNone.eq_none_int (E6 I q (by simp))
  | str j=>obtain⟨w,rfl⟩:=e;exact PySem.EqNone.eq_none_str (E6 I q (by simp))
  | _=>exact absurd (show false=true from z) Ai
 | bl i=>
  cases m
  cases y with
  | non=>cases e;exact PySem.EqNone.eq_bool_none (E6 I q (by simp))
  | bl j=>cases e;exact eq_bool (E6 I q cL7)
  | str j=>obtain⟨w,rfl⟩:=e;exact PySem.EqMixed.eq_bool_str (E6 I q (by simp))
  | _=>exact absurd (show false=true from z) Ai
 | int i=>
  obtain⟨t,rfl⟩:=m;cases y with
  | non=>cases e;exact PySem.EqNone.eq_int_none (E6 I q (by simp))
  | int j=>obtain⟨w,rfl⟩:=e;exact eq_int (E6 I q bX0)
  | str j=>obtain⟨w,rfl⟩:=e;exact PySem.EqMixed.eq_int_str (E6 I q (by simp))
  | _=>exact absurd (show false=true from z) Ai
 | str i=>
  obtain⟨t,rfl⟩:=m;cases y with
  | non=>cases e;exact PySem.EqNone.eq_str_none (E6 I q (by simp))
  | bl j=>cases e;exact PySem.EqMixed.eq_str_bool (E6 I q (by simp))
  | int j=>obtain⟨w,rfl⟩:=e;exact PySem.EqMixed.eq_str_int (E6 I q (by simp))
  | str j=>obtain⟨w,rfl⟩:=e;exact eq_str (E6 I q bX7)
  | _=>exact absurd (show false=true from z) Ai
 | byt i=>
  obtain⟨t,rfl⟩:=m;cases y with
  | byt j=>obtain⟨w,rfl⟩:=e;exact PySem.W.eq_bytes (E6 I q bY8)
  | _=>exact absurd (show false=true from z) Ai
 | _=>cases y <;> exact absurd (show false=true from z) Ai
theorem dF4:OpR X (compareOp .NotEq) rNe:=by
 intro Y s σ H x y v u Q I m e h;obtain⟨z,q⟩:=h;cases x with
 | non=>
  cases m
  cases y with
  | non=>cases e;exact PySem.EqNone.ne_none_none (E6 I q (by simp))
  | bl j=>cases e;exact PySem.EqNone.ne_none_bool (E6 I q (by simp))
  | int j=>obtain⟨w,rfl⟩:=e;exact PySem.EqNone.ne_none_int (E6 I q (by simp))
  | str j=>obtain⟨w,rfl⟩:=e;exact PySem.EqNone.ne_none_str (E6 I q (by simp))
  | _=>exact absurd (show false=true from z) Ai
 | bl i=>
  cases m
  cases y with
  | non=>cases e;exact PySem.EqNone.ne_bool_none (E6 I q (by simp))
  | bl j=>cases e;exact ne_bool (E6 I q (congrArg not cL7))
  | str j=>obtain⟨w,rfl⟩:=e;exact PySem.EqMixed.ne_bool_str (E6 I q (by simp))
  | _=>exact absurd (show false=true from z) Ai
 | int i=>
  obtain⟨t,rfl⟩:=m;cases y with
  | non=>cases e;exact PySem.EqNone.ne_int_none (E6 I q (by simp))
  | int j=>obtain⟨w,rfl⟩:=e;exact ne_int (E6 I q (congrArg not bX0))
  | str j=>obtain⟨w,rfl⟩:=e;exact PySem.EqMixed.ne_int_str (E6 I q (by simp))
  | _=>exact absurd (show false=true from z) Ai
 | str i=>
  obtain⟨t,rfl⟩:=m;cases y with
  | non=>cases e;exact PySem.EqNone.ne_str_none (E6 I q (by simp))
  | bl j=>cases e;exact PySem.EqMixed.ne_str_bool (E6 I q (by simp))
  | int j=>obtain⟨w,rfl⟩:=e;exact PySem.EqMixed.ne_str_int (E6 I q (by simp))
  | str j=>obtain⟨w,rfl⟩:=e;exact ne_str (E6 I q (congrArg not bX7))
  | _=>exact absurd (show false=true from z) Ai
 | byt i=>
  obtain⟨t,rfl⟩:=m;cases y with
  | byt j=>obtain⟨w,rfl⟩:=e;exact PySem.W.ne_bytes (E6 I q (congrArg not bY8))
  | _=>exact absurd (show false=true from z) Ai
 | _=>cases y <;> exact absurd (show false=true from z) Ai
theorem bN0:OpR X (compareOp .Lt) (rI0 λi j=>.bl (decide (i<j))):=dM6 λ_ _ _ _ _ _ _ q=>lt_int q
theorem dU8:OpR X (compareOp .LtE) (rI0 λi j=>.bl (decide (i<=j))):=dM6 λ_ _ _ _ _ _ _ q=>le_int q
theorem aS7:OpR X (compareOp .Gt) (rI0 λi j=>.bl (decide (j<i))):=dM6 λ_ _ _ _ _ _ _ q=>gt_int q
theorem F8 (b:Expr)(h:op≠.In:=by decide)(z:op≠.NotIn:=by decide):behindInMarks op b=false:=by
 have e:(op==CmpOp.In)=false:=by cases op <;> first | rfl | exact absurd rfl h
 have w:(op==CmpOp.NotIn)=false:=by cases op <;> first | rfl | exact absurd rfl z
 cases b <;> simp[behindInMarks,e,w]
theorem aB2 (ho:OpR X (compareOp op) r)(m:PE X a ta)(Y:PE X b tb)(U:behindInMarks op b=false):PE X (.Compare a [op] [b] pos) (tOp r ta tb):=by
 refine⟨?_⟩;intro z s σ H Q I h;exact wpAny_Compare1 (dM1 m Y I h λv u N x y e w J M q=>ho z N σ e x y v u Q w J M q) U
def bB2 (t:TE):TT:=λσ H Q=>t σ H λx H'=>∃k,x=.bl k/\Q k H'
theorem C3 (ho:OpR X (compareOp op) r)(N:PE X a ta)(R:PE X b tb)(D:behindInMarks op b=false):PT X (.Compare a [op] [b] pos) (bB2 (tOp r ta tb)):=by
 refine⟨?_⟩;intro w s σ H Q I h;refine wpAny_isTrue_Compare1 (thn (N w s σ H _ I h) λv s1 ⟨x,H1,U,r1,F⟩=>thn (R w s1 σ H1 _ U F) λu s2 ⟨y,m,J,r2,B⟩=>
  thn (ho w s2 σ m x y v u _ J r1 r2 B) λc s3 ⟨z,Y,M,r3,k,e,P⟩=>?_) D
 subst e;cases r3;exact wpAny_truthy_bool ⟨Y,M,P⟩
def cL0 (r r':R2)(ta tb tc:TE):TE:=λσ H Q=>ta σ H λx H1=>tb σ H1 λy H2=>r x y H2 λz H3=>∃k,z=.bl k /\
 (if k=true then tc σ H3 λw' H4=>r' y w' H4 Q else Q (.bl false) H3)
theorem cT0 (ho:OpR X (compareOp op) r)(m:OpR X (compareOp op') r')(P:PE X a ta)(hb:PE X b tb)(hc:PE X c tc)
  (hm:lastMarks [op,op'] [b,c]=false:=by with_unfolding_all rfl):PE X (.Compare a [op,op'] [b,c] pos) (cL0 r r' ta tb tc):=by
 refine⟨?_⟩;intro w s σ H Q I h;refine Compare_chain (thn (P w s σ H _ I h) λv s1 ⟨x,H1,D,r1,q1⟩=>chain_link (thn (hb w s1 σ H1 _ D q1) λu s2 ⟨y,N,F,M,q2⟩=>
  thn (ho w s2 σ N x y v u _ F r1 M q2) λd s3 ⟨z,Y,U,r3,k,e,J⟩=>?_)) hm
 subst e;cases r3;refine wpAny_truthy_bool ?_;cases k with
 | false=>exact ite_ff ⟨.bl false,Y,U,rfl,J⟩
 | true=>exact ite_tt (chain_last (thn (hc w s3 σ Y _ U J) λw' s4 ⟨z',R,B,r4,q4⟩=>m w s4 σ R y z' u w' Q B M r4 q4))
theorem aM8:(sizeLine:Nat)<2^63:=by rw[Cu];decide
theorem T1 (r:Vals [x] us):∃u,us=[u]/\RelV x u:=by
 cases r with
 | cons e w=>cases w;exact⟨_,rfl,e⟩
theorem aB3:P6 X (.type "int") (λxs H Q=>(∃i,xs=[.int i]/\Q (.int i) H)\/∃k,xs=[.bl k]/\Q (.int (if k then 1 else 0)) H):=by
 intro w s σ H xs z Q I r h;rcases h with⟨i,rfl,q⟩ | ⟨k,rfl,q⟩
 .obtain⟨u,rfl,t,rfl⟩:=T1 r;exact call_int_int ⟨.int i,H,I,⟨_,rfl⟩,q⟩
 .obtain⟨u,rfl,e⟩:=T1 r;cases e;exact call_int_bool ⟨.int (if k then 1 else 0),H,I.tok _,⟨_,rfl⟩,q⟩
end
structure Cls (K:Frag)(C:Addr):Prop where
 pg:PySem.W.plainGet K C Str.empty=true
 hd:PySem.W.hasDictIn K C=true
 po:PySem.W.plainOver K C=true
 sa:PySem.W.findIn K (.ref C) "__setattr__" = some (some (.builtin "object.__setattr__"))
structure Room (k:Nat)(A:Around):Prop where
 hd:A.handled=none
 dp:A.depth+3*k+5<recursionLimit
 un:A.units+16*k+200<cLine
theorem Room.mono (r:Room k A)(h:j<=k):Room j A:=⟨r.hd,by have:=r.dp;lia,by have:=r.un;lia⟩
theorem Room.deeper (r:Room (k+1) A)(env:Env):Room k (A.deeper env):=
 ⟨r.hd,by have:=r.dp;show A.depth+1+3*k+5<_;lia,by have:=r.un;show A.units+3+16*k+200<_;lia⟩
theorem Room.depth (r:Room k A):A.depth<recursionLimit:=by have:=r.dp;lia
theorem Room.units (r:Room k A):A.units+64<cLine:=by have:=r.un;lia
def V7:TA:=λ_ H Q=>Q [] H
def G1 (ta:TE)(tr:TA):TA:=λσ H Q=>ta σ H λx H1=>tr σ H1 λxs H2=>Q (x::xs) H2
section
variable {X:Cx}{e:Expr}{es:List Expr}{te:TE}{t:TA}{pos:Pos}
theorem A2:PA X [] V7:=⟨λ_ _ _ _ H Q I h=>Calls.spliced_nil ⟨[],H,I,.nil,h⟩⟩
theorem cW7 (U:PE X e te)(hr:PA X es t)(J:starEach (e::es) X.env=(false,eval e X.env)::starEach es X.env:=by rfl):PA X (e::es) (G1 te t):=by
 refine⟨?_⟩;intro pos w s σ H Q I h;rw[J];show wpAny _ _ (spliced ((false,eval e X.env)::backTo pos (starEach es X.env))) _ _ s;refine Calls.spliced_cons (thn (U w s σ H _ I h) λu F ⟨x,H1,m,R,M⟩=>?_)
 exact thn (hr pos w F σ H1 _ m M) λP B ⟨xs,z,Y,D,N⟩=>⟨x::xs,z,Y,.cons R D,N⟩
def bP4 (t:TA):TE:=λσ H Q=>t σ H λxs H1=>xs.length<=sizeLine/\∀p,H1 p=none->Q (.ref p) (upd H1 p (.tup xs))
def dJ3 (t:TA):TE:=λσ H Q=>t σ H λxs H1=>xs.length<=sizeLine/\∀p,H1 p=none->Q (.ref p) (upd H1 p (.lst xs))
theorem D6 (h:PA X es t):PE X (.Tuple es x1 pos) (bP4 t):=by
 refine⟨?_⟩;intro Y s σ H Q I J;refine wpAny_Tuple_spliced (thn (h pos Y s σ H _ I J) λM w ⟨xs,H1,m,r,z,q⟩=>⟨by rw[<- r.length];exact z,?_⟩)
 have U:H1 w.heap.objs.size=none:=m.hok.fresh (Aa7 _)
 refine⟨.ref w.heap.objs.size,upd H1 w.heap.objs.size (.tup xs),m.laid (t':=w.toks) (λb u e=>Aa6 _ e) (Aa7 _) ?_,rfl,q _ U⟩
 exact⟨z,M,r,⟨_,Ac3 _ rfl,rfl,⟨_,rfl⟩,rfl⟩⟩
theorem C4 (h:PA X es t):PE X (.List es pos) (dJ3 t):=by
 refine⟨?_⟩;intro Y s σ H Q I J;refine wpAny_List_spliced (thn (h pos Y s σ H _ I J) λM w ⟨xs,H1,m,r,z,q⟩=>⟨by rw[<- r.length];exact z,?_⟩)
 have U:H1 w.heap.objs.size=none:=m.hok.fresh (Aa7 _)
 refine⟨.ref w.heap.objs.size,upd H1 w.heap.objs.size (.lst xs),m.laid (t':=w.toks) (λb u e=>Aa6 _ e) (Aa7 _) ?_,rfl,q _ U⟩
 exact⟨z,M,0,r,Ac3 _ rfl⟩
end
abbrev Sp:=List V->Hp->VK->XK->Prop
abbrev CXT:=List Env->Hp->Shared->XK->Value->Shared->Prop
structure dA1 (P:Program)(w:World)(K:Frag)(mg:Str->Option Value)(base:Heap)(A:Around)(outer:List Env)(s:Shared)(H:Hp):Prop where
 frames:A.frames=some outer
 mod:Mod K mg base
 bs:∀b o,base.get? b=some o->s.heap.get? b=some o/\H b=none
 bsz:base.objs.size<=s.heap.objs.size
 funs:s.heap.FunFrames base outer
 frf:∀b∈frs outer,H b=none
 hok:HOk P w H s.heap
 bare:AllBare s.gens
def CE (outer:List Env)(P:Program)(w:World)(H:Hp)(s:Shared)(Q:VK)(u:Value)(s':Shared):Prop:=
 ∃v H',s'.os=s.os/\AllBare s'.gens/\Un (frs outer) [] H H' s.heap s'.heap/\HOk P w H' s'.heap/\RelV v u/\Q v H'
def CR (CX:CXT)(outer:List Env)(P:Program)(w:World)(H:Hp)(s:Shared)(Q:VK)(E:XK)(r:Result)(s':Shared):Prop:=
 match r with
 | .ok (.ret u)=>CE outer P w H s Q u s'
 | .ok _=>False
 | .error e=>CX outer H s E e s'
structure D2 (P:Program)(w:World)(K:Frag)(mg:Str->Option Value)(base:Heap)(CX:CXT)(k:Nat)(f:Addr)(fd:FuncData)(ps:List Str)(sp:Sp):Prop where
 len:∀vs H Q E,sp vs H Q E->vs.length=ps.length
 run:∀(A:Around) (outer:List Env) (s:Shared) (H:Hp) (args:Args) (us:List Value) (vs:List V) (Q:VK) (E:XK),Room k A->dA1 P w K mg base A outer s H->BindsTo s fd args (ps.zip us)->Vals vs us->sp vs H Q E ->
  codeAny (model P w) A (.call (.ref f) args) (CR CX outer P w H s Q E) s
section
variable {X:Cx}{aA:Eg}{σ:St}{H:Hp}{s s':Shared}
theorem Inv.env0 (I:Inv X aA σ H s):dA1 X.prog X.w X.K X.mg X.base X.A X.stack s H:=
 ⟨I.ok.frames,I.ok.mod,I.bs,Bi I.ok.bsz I.sz,I.stack,I.stkFree,I.hok,I.bare⟩
theorem Inv.after (I:Inv X aA σ H s)(h:CE X.stack X.prog X.w H s Q u s'):EP X aA σ Q u s':=by
 obtain⟨v,U,os,e,un,m,r,q⟩:=h;obtain⟨J,g,d,t,Y⟩:=s';obtain rfl:Y=s.os:=os;exact⟨v,U,I.call (h':=J) (g':=g) (d':=d) (t':=t) (ch:=[]) un m e (λb z=>absurd z (by simp)),r,q⟩
end
def aW8 (sp:Sp)(dvs:List V)(E:XK)(t:TA):TE:=λσ H Q=>t σ H λvs H1=>sp (vs++dvs) H1 Q E
def Binds (K:Frag)(fd:FuncData)(ps:List Str)(ds:List Value):Prop:=
 ∀(s:Shared) (us:List Value),K.In s.heap->(us++ds).length=ps.length->BindsTo s fd ⟨us,[]⟩ (ps.zip (us++ds))
theorem Binds.all {K:Frag}{fd:FuncData}{ps:List Str}(h:∀us:List Value,us.length=ps.length->bindArgs fd ⟨us,[]⟩=pure (ps.zip us)):Binds K fd ps []:=λs us _ e=>by
 rw[Cd]at e ⊢;exact .of_eq (h us e)
def bS3 (CX:CXT)(X:Cx)(E:XK):Prop:=∀(aA:Eg) (σ:St) (H:Hp) (s:Shared) (e:Value) (s':Shared),Inv X aA σ H s->CX X.stack H s E e s'->X.xe e s'
section
variable {X:Cx}{CX:CXT}{k:Nat}{f C:Addr}{fd:FuncData}{ps:List Str}{sp:Sp}{dvs:List V}{ds:List Value}{E:XK}{x m:Str}{p pos apos:Pos}{e o:Expr}{es:List Expr}{ta:TE}{t:TA}
theorem dO0 (F:D2 X.prog X.w X.K X.mg X.base CX k f fd ps sp)(hr:Room k X.A)(U:Binds X.K fd ps ds)(J:Vals dvs ds)(N:bS3 CX X E)
  (I:Inv X aA σ H s) (r:Vals vs us) (h:sp (vs++dvs) H Q E):wpAny (model X.prog X.w) X.A (call (.ref f) us) (EP X aA σ Q) X.xe s:=by
 have Y:Vals (vs++dvs) (us++ds):=r.append J
 have M:(us++ds).length=ps.length:=by rw[<- Y.length];exact F.len _ _ _ _ h
 refine wpAny_call (codeAny_mono (F.run X.A X.stack s H ⟨us,[]⟩ (us++ds) (vs++dvs) Q E hr I.env0 (U s us I.kIn M) Y h) λr R z=>?_)
 cases r with
 | error e=>exact N aA σ H s e R I z
 | ok fl=>
  cases fl with
  | ret u=>exact I.after z
  | next=>exact False.elim z
  | brk=>exact False.elim z
  | cont=>exact False.elim z
theorem cY3 (F:D2 X.prog X.w X.K X.mg X.base CX k f fd ps sp)(hr:Room k X.A)(D:Gl X x)(P:X.mg x=some (.ref f))(B:PySem.W.keepIn X.K (.ref f)=true)(N:Binds X.K fd ps ds)(R:Vals dvs ds)(hx:bS3 CX X E)
  (M:PA X (e::es) t) (z:(x==("__debug__" : Str))=false:=by decide) (he:starEach (e::es) X.env=(false,eval e X.env)::starEach es X.env:=by rfl) (Y:(backTo pos (starEach es X.env)).any (·.1)=false:=by rfl) :
  PE X (.Call (.Name x p) (e::es) [] pos) (aW8 sp dvs E t):=by
 refine⟨?_⟩;intro J s σ H Q I h;refine wpAny_Call_Name_kw (bY5 I D P ?_ z);refine PySem.W.callWith_K (h₀:=X.base) I.ok.mod.kin B (thn (M pos J s σ H _ I h) λus s1 ⟨vs,H1,U,r,q⟩=>⟨U.kIn,?_⟩) he Y
 exact dO0 F hr N R hx U r q
end
structure C1 (N P:List Str)(sc:Scope):Prop where
 kind:sc.kind=.function:=by rfl
 co:sc.isCoroutine=false:=by rfl
 gen:sc.isGenerator=false:=by rfl
 nd:N.Nodup:=by decide +kernel
 pre:N.take P.length=P:=by rfl
 par:∀x∈P,sc.names.lookup x=some .local\/sc.names.lookup x=some .cell:=by decide +kernel
 nofree:∀y∈sc.names,y.2≠.free:=by decide +kernel
theorem bB9 {kindOf:Str->Option NameKind}{x:Str}:∀{binds:List (Str×Value)} {m:Str->Option Value},(∀v,(x,v)∉binds)->bindL kindOf binds m x=m x
 | [],_,_=>rfl
 | (n,v)::r,m,h=>by
  unfold bindL;rw[bB9 λw e=>h w (Ad4 _ e)]
  split
  .have:x≠n:=by rintro rfl;exact h v Aj
   simp[this]
  .rfl
theorem bA1 {kindOf:Str->Option NameKind}{x:Str}:∀{binds:List (Str×Value)} {m:Str->Option Value},(∀v,(x,v)∉binds)->bindC kindOf binds m x=m x
 | [],_,_=>rfl
 | (n,v)::r,m,h=>by
  unfold bindC;rw[bA1 λw e=>h w (Ad4 _ e)]
  split
  .rfl
  .have:x≠n:=by rintro rfl;exact h v Aj
   simp[this]
theorem bA2 {kindOf:Str->Option NameKind}{x:Str}{v:Value}:∀{P:List Str} {vs:List Value} {i:Nat} {m:Str->Option Value},P.Nodup->P[i]? = some x->vs[i]? = some v->kindOf x=some .local ->
  bindL kindOf (P.zip vs) m x=some v
 | [],_,_,_,_,h,_,_=>by simp at h
 | _::_,[],_,_,_,_,h,_=>by simp at h
 | p::P,w::vs,0,m,nd,h1,h2,hk=>by
  simp at h1 h2;subst h1;subst h2
  show bindL kindOf ((p,w)::P.zip vs) m p=_
  unfold bindL;rw[bB9 λv e=>(Aa5.mp nd).1 (List.of_mem_zip e).1,Ae hk]
  simp
 | p::P,w::vs,i+1,m,nd,h1,h2,hk=>by
  show bindL kindOf ((p,w)::P.zip vs) m x=_
  unfold bindL;exact bA2 (i:=i) (Aa5.mp nd).2 (by simpa using h1) (by simpa using h2) hk
theorem bD3 {kindOf:Str->Option NameKind}{x:Str}{v:Value}:∀{P:List Str} {vs:List Value} {i:Nat} {m:Str->Option Value},P.Nodup->P[i]? = some x->vs[i]? = some v->kindOf x≠some .local ->
  bindC kindOf (P.zip vs) m x=some v
 | [],_,_,_,_,h,_,_=>by simp at h
 | _::_,[],_,_,_,_,h,_=>by simp at h
 | p::P,w::vs,0,m,nd,h1,h2,hk=>by
  simp at h1 h2;subst h1;subst h2
  show bindC kindOf ((p,w)::P.zip vs) m p=_
  unfold bindC;rw[bA1 λv e=>(Aa5.mp nd).1 (List.of_mem_zip e).1,Ac hk]
  simp
 | p::P,w::vs,i+1,m,nd,h1,h2,hk=>by
  show bindC kindOf ((p,w)::P.zip vs) m x=_
  unfold bindC;exact bD3 (i:=i) (Aa5.mp nd).2 (by simpa using h1) (by simpa using h2) hk
def Y3 (N:List Str)(vs:List V):St:=vs.map some++List.replicate (N.length-vs.length) none
def bU8 (CX:CXT)(P:Program)(w:World)(K:Frag)(mg:Str->Option Value)(base:Heap)(N:List Str)(qual:Str)(scope:Scope)(f:Addr)(cd:Value)(A:Around)(outer:List Env)(s:Shared)(H:Hp)(E:XK):Cx where
 prog:=P
 w:=w
 K:=K
 mg:=mg
 base:=base
 A:=A.deeper (envOfC qual scope s.heap.objs.size f cd)
 N:=N
 s₀:=s
 H₀:=H
 env:=envOfC qual scope s.heap.objs.size f cd
 outer:=outer
 stack:=envOfC qual scope s.heap.objs.size f cd::outer
 ex:=[]
 calm:=true
 fn:=λ_=>true
 pn:=[]
 xe:=λe s'=>wpAny (model P w) (A.deeper (envOfC qual scope s.heap.objs.size f cd)) (leaving (envOfC qual scope s.heap.objs.size f cd) e) (λ_ s''=>CX outer H s E e s'') (λe' s''=>CX outer H s E e' s'') s'
theorem bJ7 {sc:Scope}{n:Nat}{x:Str}(h:sc.names.lookup x=some .cell):∃c,(cellsFrom n sc.names []).lookup x=some c:=by
 have q:=PySem.W.cellsFrom_some sc.names n [] (.inl h)
 exact Option.isSome_iff_exists.mp q
theorem cG2 {CX:CXT}{P:Program}{w:World}{K:Frag}{mg:Str->Option Value}{base:Heap}{N ps:List Str}{qual:Str}{scope:Scope}{f:Addr}{cd:Value}{A:Around}{outer:List Env}{s s1:Shared}{H:Hp}{E:XK}{us:List Value}{vs:List V}
  (S:C1 N ps scope) (Q:A.handled=none) (Y:dA1 P w K mg base A outer s H) (hl:vs.length=ps.length) (r:Vals vs us)
  (x:InCallC s s.heap.objs.size (bindL (envOfC qual scope s.heap.objs.size f cd).kindOf (ps.zip us) λ_=>none) (cellsFrom (s.heap.objs.size+1) scope.names []) (bindC (envOfC qual scope s.heap.objs.size f cd).kindOf (ps.zip us) λ_=>none) s1) :
  Inv (bU8 CX P w K mg base N qual scope f cd A outer s H E) [] (Y3 N vs) H s1:=by
 have D:ps.length<=N.length:=by have:=congrArg List.length S.pre;rw[Ad1]at this;lia
 obtain⟨h1,tk,rfl,J⟩:=x.done;have X:∀b:Addr,b∉(bU8 CX P w K mg base N qual scope f cd A outer s H E).ex:=λb z=>absurd (show b∈([]:List Addr) from z) (by simp)
 refine⟨⟨Y.mod,S.kind,rfl,rfl,Aa7 _,λy z c h1 m=>?_,λy hy=>?_,λy c _ h=>?_,λ_=>Q,Around.frames_deeper Y.frames,.inr ⟨rfl,rfl⟩,λb z=>absurd z (X b),Y.bs,Y.bsz,λb _ _=>X b,λb z=>absurd z (X b),Y.funs,Y.frf⟩,
  rfl,Y.bare,Un.kept J,⟨_,x.toInCall.ns,λi y v h1 m B=>?_⟩,λy c h=>⟨_,x.cell y c h⟩,Y.hok.fresh (Aa7 _),λy c h=>?_,λp hp=>absurd (show p∈([]:Eg) from hp) (by simp),Y.hok.kept J,?_⟩
 .exact name_of_addr x.apart (PySem.mem_of_lookup h1) (PySem.mem_of_lookup m)
 .have hy:scope.names.lookup y=some .cell\/scope.names.lookup y=some .free:=hy
  rcases hy with hy | hy
  .exact bJ7 hy
  .exact absurd rfl (S.nofree _ (PySem.mem_of_lookup hy))
 .exact Cq (x.above y c (PySem.mem_of_lookup h))
 .have hi:i<vs.length:=by
   unfold Y3 at m;by_cases hi:i<vs.length
   .exact hi
   .rw[Bp (by simpa using hi)]at m
    rw[Dg]at m;split at m <;> cases m
  have R:vs[i]? = some v:=by
   unfold Y3 at m;rw[Bl (by simpa using hi),Aa9]at m
   cases e:vs[i]? with
   | none=>rw[e]at m;cases m
   | some a=>rw[e]at m;cases m;rfl
  obtain⟨u,M,F⟩:=r.get R;have hp:ps[i]? = some y:=by
   rw[<- S.pre,List.getElem?_take_of_lt (by lia)];exact h1
  have U:ps.Nodup:=by rw[<- S.pre];exact S.nd.sublist (List.take_sublist _ _)
  refine⟨u,F,?_⟩;rcases S.par y (Aw hp) with k | k
  .exact .inl ⟨k,bA2 U hp M k⟩
  .obtain⟨c,e⟩:=bJ7 (n:=s.heap.objs.size+1) k;refine .inr ⟨.inl k,c,e,?_⟩;have q:=x.cell y c e;rw[bD3 U hp M (by show scope.names.lookup y≠_;rw[k];decide)]at q
   exact q
 .exact Y.hok.fresh (Cq (x.above y c (PySem.mem_of_lookup h)))
 .unfold Y3;show _=N.length;rw[Ab7,Aa3,Ds]
  lia
theorem dO9 {CX:CXT}{P:Program}{w:World}{K:Frag}{mg:Str->Option Value}{base:Heap}{k:Nat}{f:Addr}{name qual:Str}{params:Arguments}{body:List Stmt}{scope:Scope}{dV kV doc pm cdv ct oc:Value}{an od:Option Addr}
  {osl:Array (Option Value)} {N ps:List Str} {sp:Sp} (lk:K.lookup f=some ⟨oc,od,.func (PySem.W.fnOf name qual params body scope dV kV doc pm an cdv ct),osl⟩) (R:PySem.W.codeIn K cdv qual=true) (S:C1 N ps scope)
  (len:∀vs H Q E,sp vs H Q E->vs.length=ps.length)
  (z:∀(A:Around) (outer:List Env) (s:Shared) (H:Hp) (vs:List V) (Q:VK) (E:XK),Room k (A.deeper (envOfC qual scope s.heap.objs.size f cdv))->sp vs H Q E ->
   ∃t,PSs (bU8 CX P w K mg base N qual scope f cdv A outer s H E) body t/\t {nx:=λ_ H'=>Q .non H',rt:=Q} (Y3 N vs) H) :
  D2 P w K mg base CX (k+1) f (PySem.W.fnOf name qual params body scope dV kV doc pm an cdv ct) ps sp:=by
 refine⟨len,λA outer s H args us vs Q E hr X hb r U=>?_⟩
 have hl:=len _ _ _ _ U
 have KX:K.In s.heap:=X.mod.kin.keeps λb o e=>(X.bs b o e).1
 have D:s.heap.NoLimit:=X.mod.nolimit.keeps λb o e=>(X.bs b o e).1
 have m:∀y∈ps.zip us,scope.names.lookup y.1=some .local\/(scope.names.lookup y.1=some .cell/\((cellsFrom (s.heap.objs.size+1) scope.names []).lookup y.1).isSome=true):=λ⟨n,v⟩ hy=>by
  rcases S.par n (List.of_mem_zip hy).1 with q | q
  .exact .inl q
  .exact .inr ⟨q,PySem.W.cellsFrom_some _ _ _ (.inl q)⟩
 refine codeAny_call_function hr.depth (KX _ _ lk) rfl S.co S.gen rfl (PySem.W.codeRec_of KX R) (hb _ _ _ _ ?_);refine wpAny_newFunctionEnv_cells S.kind m λenv he s1 x=>?_
 subst he;refine⟨D.keeps x.toInCall.keep,codeAny_func ?_⟩;obtain⟨t,ht,hq⟩:=z A outer s H vs Q E (hr.deeper _) U;have I:Inv (bU8 CX P w K mg base N qual scope f cdv A outer s H E) [] (Y3 N vs) H s1:=cG2 S hr.hd X hl r x;refine wpAny_mono (ht [] s1 (Y3 N vs) H _ I hq) (λfl B Y=>?_) λe B Y=>Y
 have fin:∀{M:St} {H':Hp} {v:V} {u:Value},Inv (bU8 CX P w K mg base N qual scope f cdv A outer s H E) [] M H' B->RelV v u->Q v H'->CE outer P w H s Q u B:=
  λ{M H' v u} J F q=>⟨v,H',J.os,J.bare,J.base,J.hok,F,q⟩
 cases fl with
 | ret u=>
  obtain⟨v,M,H',J,F,q⟩:=Y;exact fin J F q
 | next=>
  obtain⟨M,H',J,q⟩:=Y;exact fin (v:=V.non) (u:=Value.none) J rfl q
 | brk=>
  obtain⟨_,_,_,q⟩:=Y;exact False.elim q
 | cont=>
  obtain⟨_,_,_,q⟩:=Y;exact False.elim q
section
variable {X:Cx}{x:Str}{p pos:Pos}{e:Expr}{es:List Expr}{t:TA}{id T:String}{r:List V->Hp->VK->Prop}
def tCB (r:List V->Hp->VK->Prop)(t:TA):TE:=λσ H Q=>t σ H λvs H1=>r vs H1 Q
theorem C0 (J:P6 X (.builtin id) r)(M:Gl X x)(N:X.mg x=none)(D:bootBuiltins x=some (.builtin id))(U:PA X (e::es) t)(R:x≠"__name__" := by decide)(w:(x==("__debug__" : Str))=false:=by decide)
  (he:starEach (e::es) X.env=(false,eval e X.env)::starEach es X.env:=by rfl) (z:(backTo pos (starEach es X.env)).any (·.1)=false:=by rfl):PE X (.Call (.Name x p) (e::es) [] pos) (tCB r t):=by
 refine⟨?_⟩;intro m s σ H Q I h;refine wpAny_Call_Name_kw (m5 I M N D ?_ R w);exact PyProof.Rows.callWith_builtin1 (thn (U pos m s σ H _ I h) λus P ⟨vs,H1,Y,B,F⟩=>J m P σ H1 vs us Q Y B F) he z
theorem E3 (J:P6 X (.type T) r)(M:Gl X x)(N:X.mg x=none)(D:bootBuiltins x=some (.type T))(U:PA X (e::es) t)(R:x≠"__name__" := by decide)(w:(x==("__debug__" : Str))=false:=by decide)
  (he:starEach (e::es) X.env=(false,eval e X.env)::starEach es X.env:=by rfl) (z:(backTo pos (starEach es X.env)).any (·.1)=false:=by rfl):PE X (.Call (.Name x p) (e::es) [] pos) (tCB r t):=by
 refine⟨?_⟩;intro m s σ H Q I h;refine wpAny_Call_Name_kw (m5 I M N D ?_ R w);exact Bv (thn (U pos m s σ H _ I h) λus P ⟨vs,H1,Y,B,F⟩=>J m P σ H1 vs us Q Y B F) he z
end
end L2
namespace HT
open PySem PyProof.Rows
def X1:List Int->List Int->Bool
 | [],[]=>false
 | [],_::_=>true
 | _::_,[]=>false
 | x::xs,y::ys=>if x=y then X1 xs ys else decide (x<y)
section
open PySem.SeqAt
open PySem.AutoSeq1 (wpAny_loadPart')
open PySem.MeetsSeq PySem.MeetsSeq2 PySem.MeetsSeq3
end
section
variable {prog:Program}{w:World}{A:Around}{E:Ef}{s:Shared}
theorem cZ4 (ht:IsTup s.heap t vs.toArray)(hb:IsTup s.heap b ws.toArray)(P:vs≠[])
  (h1:ws=[]->Q (.ref t) s) (h2:ws≠[]->Q (.ref s.heap.objs.size) {s with heap:=s.heap.push {cls:=.type "tuple",data:=.seq (vs++ws).toArray}})
  (hsz:vs.length+ws.length<=sizeLine):wpAny (model prog w) A (binaryOp .Add (.ref t) (.ref b)) Q E s:=by
 obtain⟨⟨cls,R,data,sl⟩,ho,D,n,B⟩:=id ht;obtain⟨⟨N,m,M,U⟩,z,Y,n2,X⟩:=id hb;simp only at D B Y X;subst D B Y X;have e:vs.toArray++ws.toArray=(vs++ws).toArray:=by simp
 by_cases J:ws=[]
 .exact concat_meets ⟨_,ho,rfl⟩ ⟨_,z,rfl⟩ noFill_tuple_add seq_tuple_add PySem.F.slot_tuple_add PySem.F.entry_tuple_add (PySem.F.args_tuple_add_2 _ _)
   (tuple_addW1 t b vs.toArray ws.toArray n n2 R m sl U (by simpa using P) (by simp[J])) ⟨ho,z,h1 J⟩
 .refine concat_meets ⟨_,ho,rfl⟩ ⟨_,z,rfl⟩ noFill_tuple_add seq_tuple_add PySem.F.slot_tuple_add PySem.F.entry_tuple_add (PySem.F.args_tuple_add_2 _ _)
   (tuple_addW2 t b vs.toArray ws.toArray n n2 R m sl U (by simpa using P) (by simpa using J) (by rw[Ab2,Ab2];exact hsz)) ⟨ho,z,?_⟩
  rw[e];exact h2 J
def sIx (n d:Nat):Option Int->Nat
 | none=>d
 | some v=>if v<0 then(v+(n:Int)).toNat else min v.toNat n
theorem dK8 (n d:Nat)(z:d<=n)(o:Option Int):sIx n d o<=n:=by
 cases o with
 | none=>exact z
 | some v=>
  show(if v<0 then(v+(n:Int)).toNat else min v.toNat n)<=n
  by_cases e:v<0
  .rw[Ae e];lia
  .rw[Ac e];exact Nat.min_le_right _ _
theorem bX9 (v:Int)(n d:Nat):(if v<0 then max (v+(n:Int)) 0 else min v (n:Int))=((sIx n d (some v):Nat):Int):=by
 show(if v<0 then max (v+(n:Int)) 0 else min v (n:Int))=(((if v<0 then(v+(n:Int)).toNat else min v.toNat n):Nat):Int)
 by_cases e:v<0
 .simp only[Ae e];lia
 .simp only[Ac e];lia
theorem bR9 (lo hi:Option Int)(n:Nat):Builtin.Slice.sliceAdjust lo hi 1 (n:Int)=(((sIx n 0 lo:Nat):Int),((sIx n n hi:Nat):Int)):=by
 have h1:¬((1:Int)<0):=by lia
 unfold Builtin.Slice.sliceAdjust;simp only[h1,if_false];refine Prod.ext ?_ ?_
 .cases lo with
  | none=>rfl
  | some v=>exact bX9 v n 0
 .cases hi with
  | none=>rfl
  | some v=>exact bX9 v n n
theorem bR7 (i j:Nat):Builtin.Slice.slicePlaces (i:Int) (j:Int) 1=j-i:=by
 unfold Builtin.Slice.slicePlaces;have h1:(1:Int)>0:=by lia
 simp only[h1,if_true,Int.ediv_one];split <;> lia
theorem aX6 (p:IsPart v o)(h:Q o s):wpAny (model prog w) A (Builtin.Slice.slicePartIndex v) Q E s:=by
 cases p with
 | none=>exact slicePart_none h
 | int i t=>exact slicePart_int h
theorem Z5 {sl:Addr}{vl vu:Value}{lo hi:Option Int}{n:Nat}{Q:Int×Int×Nat->Shared->Prop}(Y:s.heap.IsSliceOf sl vl vu .none)(X:IsPart vl lo)(U:IsPart vu hi)
  (h:Q (((sIx n 0 lo:Nat):Int),1,sIx n n hi-sIx n 0 lo) s):wpAny (model prog w) A (Builtin.Slice.sliceApplied (.ref sl) (pure (n:Int))) Q E s:=by
 obtain⟨os,z,m,e⟩:=id Y;unfold Builtin.Slice.sliceApplied Builtin.Slice.sliceFields;refine Aa (Aa (wpAny_field z e (x:=vl) rfl (Aa (wpAny_field z e (x:=vu) rfl (Aa (wpAny_field z e (x:=.none) rfl (Ab ?_)))))));refine Aa (slicePart_none ?_);show wpAny _ _ (if((1:Int)==0)=true then _ else _) _ _ s;rw[Ac (by decide)]
 refine Aa (aX6 X (Aa (aX6 U (Aa (Ab ?_)))));show wpAny _ _ (match Builtin.Slice.sliceAdjust lo hi 1 (n:Int) with | (lo,hi)=>pure (lo,(1:Int),Builtin.Slice.slicePlaces lo hi 1)) _ _ s
 rw[bR9 lo hi n];show wpAny _ _ (pure (((sIx n 0 lo:Nat):Int),(1:Int),Builtin.Slice.slicePlaces ((sIx n 0 lo:Nat):Int) ((sIx n n hi:Nat):Int) 1)) _ _ s;rw[bR7];exact Ab h
theorem cT5 (xs:Array Value)(i k:Nat):((List.range k).filterMap λ(m:Nat)=>xs[((i:Int)+(m:Int)*1).toNat]?).toArray=((xs.toList.drop i).take k).toArray:=by
 have e:(λ(m:Nat)=>xs[((i:Int)+(m:Int)*1).toNat]?)=λm=>xs[i+m]? := by
  funext m
  have:((i:Int)+(m:Int)*1).toNat=i+m:=by lia
  rw[this]
 rw[e]
 have:=pick_run xs i k
 rw[Cm]at this;have z:((λx=>xs[x]?) ∘ λx=>i+x)=λm=>xs[i+m]? := rfl
 rw[z]at this;rw[this]
theorem aK1 {t sl:Addr}{items:Array Value}{vl vu:Value}{lo hi:Option Int}{Q:Ef}(z:IsTup s.heap t items)(M:s.heap.IsSliceOf sl vl vu .none)(D:IsPart vl lo)(F:IsPart vu hi)
  (R:¬(sIx items.size 0 lo=0/\sIx items.size items.size hi=items.size))
  (h:Q (.ref s.heap.objs.size) {s with heap:=s.heap.push {cls:=.type "tuple",data:=.seq ((items.toList.drop (sIx items.size 0 lo)).take (sIx items.size items.size hi-sIx items.size 0 lo)).toArray}})
  (hsz:items.size<=sizeLine):wpAny (model prog w) A (getItem (.ref t) (.ref sl)) Q E s:=by
 have e:sizeOk (.seq ((items.toList.drop (sIx items.size 0 lo)).take (sIx items.size items.size hi-sIx items.size 0 lo)).toArray):=by
  show((items.toList.drop (sIx items.size 0 lo)).take (sIx items.size items.size hi-sIx items.size 0 lo)).toArray.size<=sizeLine
  rw[Ab2,Ad1,Cg,Am]
  lia
 have B:sIx items.size items.size hi<=items.size:=dK8 _ _ (Aa7 _) hi
 obtain⟨os,J,X,N⟩:=id M;have Y:s.TypeIs (.ref sl) "slice" := ⟨os,J,X⟩;unfold getItem
 try with_reducible refine Bk ?_
 first | refine Aa (Ab ?_) | skip
 refine Aa (wpAny_sequenceKey z.typeIs (by decide) ?_)
 refine Aa (Bj (name:=Str.ofString "__getitem__") z.typeIs Bw
  (Bf Bw z.typeIs entry_tuple_getitem ?_ (args_tuple_getitem _ _)))
 show wpAny _ _ (Builtin.Tuple.tupleItemsOf (.ref t) >>= _) _ _ s
 refine Aa (tupleItemsOf_ z ?_);refine Aa (wpAny_typeOf Y ?_);rw[Ae (by decide)]
 refine Aa (Z5 M D F ?_);have U:¬((((sIx items.size 0 lo:Nat):Int)==0&&(1:Int)==1&&(sIx items.size items.size hi-sIx items.size 0 lo)==items.size)=true):=by
  intro q;rw[Ba,Ba]at q;have P:((sIx items.size 0 lo:Nat):Int)=0:=eq_of_beq q.1.1;have q2:sIx items.size items.size hi-sIx items.size 0 lo=items.size:=eq_of_beq q.2;exact R ⟨by lia,by lia⟩
 show wpAny _ _ (if(((sIx items.size 0 lo:Nat):Int)==0&&(1:Int)==1&&(sIx items.size items.size hi-sIx items.size 0 lo)==items.size)=true then _ else _) _ _ s
 rw[Ac U,cT5];first
  | exact Aa (m:=Builtin.Tuple.tupleExact _) (Be (Ab ⟨_,rfl,Ab h⟩) e)
  | exact Aa (m:=Builtin.Tuple.tupleExact _) (Be (Aa (Ab (Ab ⟨_,rfl,Ab h⟩))) e)
  | exact Aa (Aa (m:=Builtin.Tuple.tupleExact _) (Be (Ab (Ab ⟨_,rfl,Ab h⟩)) e))
  | exact Aa (Aa (m:=Builtin.Tuple.tupleExact _) (Be (Ab ⟨_,rfl,Ab h⟩) e))
end
end HT
namespace L2
open PySem PySem.Spec PyProof.Rows
abbrev TO:=St->Hp->(Option Int->Hp->Prop)->Prop
structure PO (X:Cx)(e:Option Expr)(t:TO):Prop where
 mk ::
 run :
  ∀(aA:Eg) (s:Shared) (σ:St) (H:Hp) (Q:Option Int->Hp->Prop),Inv X aA σ H s->t σ H Q ->
   wpAny (model X.prog X.w) X.A (evalPart e X.env) (λu s'=>∃o H',Inv X aA σ H' s'/\IsPart u o/\Q o H') X.xe s
instance {X:Cx} {e:Option Expr} {t:TO}:CoeFun (PO X e t) λ_=>
 (∀(aA:Eg) (s:Shared) (σ:St) (H:Hp) (Q:Option Int->Hp->Prop),Inv X aA σ H s->t σ H Q ->
  wpAny (model X.prog X.w) X.A (evalPart e X.env) (λu s'=>∃o H',Inv X aA σ H' s'/\IsPart u o/\Q o H') X.xe s):=⟨PO.run⟩
def cB7:TO:=λ_ H Q=>Q none H
def bZ3 (t:TE):TO:=λσ H Q=>t σ H λx H1=>∃i,x=.int i/\Q (some i) H1
section
variable {X:Cx}{e:Expr}{te:TE}{lo hi:Option Expr}{tl th:TO}{pos p2:Pos}
theorem aQ9:PO X none cB7:=by
 refine⟨?_⟩;intro w s σ H Q I h;rw[evalPart_none];exact Ab ⟨none,H,I,.none,h⟩
theorem S6 (h:PE X e te):PO X (some e) (bZ3 te):=by
 refine⟨?_⟩;intro z s σ H Q I m;rw[evalPart_some];refine thn (h z s σ H _ I m) λu J ⟨x,H1,w,U,Y⟩=>?_
 obtain⟨i,rfl,q⟩:=Y;obtain⟨t,rfl⟩:=U;exact⟨some i,H1,w,.int i t,q⟩
def SlR (X:Cx)(r:V->Option Int->Option Int->Hp->VK->Prop):Prop:=
 ∀(aA:Eg) (s:Shared) (σ:St) (H:Hp) (x:V) (v vl vu:Value) (lo hi:Option Int) (sl:Addr) (Q:VK),Inv X aA σ H s->RelV x v->s.heap.IsSliceOf sl vl vu .none->IsPart vl lo->IsPart vu hi->r x lo hi H Q ->
  ∃T id,typeLookup (.type T) "__getitem__" = pure (some (.builtin id))/\s.TypeIs v T/\wpAny (model X.prog X.w) X.A (getItem v (.ref sl)) (EP X aA σ Q) X.xe s
def tSl (r:V->Option Int->Option Int->Hp->VK->Prop)(te:TE)(tl th:TO):TE:=λσ H Q=>te σ H λx H1=>tl σ H1 λl H2=>th σ H2 λu H3=>r x l u H3 Q
theorem W8 (hr:SlR X r)(he:PE X e te)(hl:PO X lo tl)(hu:PO X hi th):PE X (.Subscript e (.Slice lo hi none p2) pos) (tSl r te tl th):=by
 refine⟨?_⟩;intro m s σ H Q I h;refine Subscript_ (thn (he m s σ H _ I h) λv s1 ⟨x,H1,N,r1,q1⟩=>?_)
 refine wpAny_Slice (thn (hl m s1 σ H1 _ N q1) λY s2 ⟨l,M,R,pl,q2⟩=>thn (hu m s2 σ M _ R q2) λU z ⟨u,J,D,pu,q3⟩=>?_)
 rw[evalPart_none];refine Ab ?_;have F:Inv X m σ J {z with heap:=z.heap.push {cls:=.type "slice",data:=.fields #[Y,U,.none]}}:=D.kept (t':=z.toks) λb ob q=>Aa6 _ q
 obtain⟨T,id,B,ht,P⟩:=hr m {z with heap:=z.heap.push {cls:=.type "slice",data:=.fields #[Y,U,.none]}} σ J x v Y U l u z.heap.objs.size Q F r1 (Heap.IsSliceOf.new ..) pl pu q3
 show wpAny (model X.prog X.w) X.A (subscriptTail e (.Slice lo hi none p2) v (.ref z.heap.objs.size)) (EP X m σ Q) X.xe {z with heap:=z.heap.push {cls:=.type "slice",data:=.fields #[Y,U,.none]}}
 exact tail_any (ops:=[.ref z.heap.objs.size,v]) ht B P (by with_unfolding_all rfl)
def bH8 (xs:List V)(lo hi:Option Int):List V:=(xs.drop (HT.sIx xs.length 0 lo)).take (HT.sIx xs.length xs.length hi-HT.sIx xs.length 0 lo)
theorem aO3 (xs:List V)(lo hi:Option Int):(bH8 xs lo hi).length<=xs.length:=by
 unfold bH8;rw[Ad1,Cg]
 lia
def dW1 (K:Frag):V->Option Int->Option Int->Hp->VK->Prop:=λx lo hi H Q=>∃a xs,x=.ref a/\SqT K H a xs /\
 ¬(HT.sIx xs.length 0 lo=0/\HT.sIx xs.length xs.length hi=xs.length)/\∀p,H p=none->Q (.ref p) (upd H p (.tup (bH8 xs lo hi)))
theorem dG8:SlR X (dW1 X.K):=by
 intro D s σ H x v B P lo hi F Q I R Y M N h;obtain⟨a,xs,rfl,J,U,q⟩:=h;cases R;obtain⟨its,r,z,m⟩:=I.tuple J;have w:its.toArray.size=xs.length:=by rw[Ab2];exact r.length.symm
 refine⟨"tuple",_,Bw.lookup,z.typeIs,?_⟩;refine HT.aK1 z Y M N (by rw[w];exact U) ?_ (by rw[w];exact m)
 rw[w];refine⟨.ref s.heap.objs.size,_,I.laid (t':=s.toks) (o:=.tup (bH8 xs lo hi)) (λb ob q=>Aa6 _ q) (Aa7 _) ?_,rfl,q _ (I.hok.fresh (Aa7 _))⟩
 exact⟨Bi (aO3 xs lo hi) m,_,(r.drop (HT.sIx xs.length 0 lo)).take (HT.sIx xs.length xs.length hi-HT.sIx xs.length 0 lo),Tup0.nw _ _ _⟩
def cR0 (K:Frag):R2:=λx y H Q=>∃a b xs ys,x=.ref a/\y=.ref b/\SqT K H a xs/\SqT K H b ys/\xs≠[]/\xs.length+ys.length<=sizeLine /\
 (ys=[]->Q (.ref a) H)/\(ys≠[]->∀p,H p=none->Q (.ref p) (upd H p (.tup (xs++ys))))
theorem Vals.nil_iff (r:Vals xs us):us=[]↔xs=[]:=by
 cases r with
 | nil=>simp
 | cons _ _=>simp
theorem dA3:OpR X (binaryOp .Add) (cR0 X.K):=by
 intro aA s σ H x y v u Q I P ry h;obtain⟨a,b,xs,ys,rfl,rfl,M,N,R,U,F,B⟩:=h;cases P;cases ry;obtain⟨its,Y,D,_⟩:=I.tuple M;obtain⟨J,m,p2,_⟩:=I.tuple N;refine HT.cZ4 D p2 (λz=>R (Y.nil_iff.mp z)) (λz=>⟨.ref a,H,I,rfl,F (m.nil_iff.mp z)⟩) (λz=>?_) (by rw[<- Y.length,<- m.length];exact U)
 refine⟨.ref s.heap.objs.size,_,I.laid (t':=s.toks) (o:=.tup (xs++ys)) (λb ob q=>Aa6 _ q) (Aa7 _) ?_,rfl,B (λw=>z (m.nil_iff.mpr w)) _ (I.hok.fresh (Aa7 _))⟩
 exact⟨by rw[Ab7];exact U,_,Y.append m,Tup0.nw _ _ _⟩
end
def ixN (n:Nat)(i:Int):Option Nat:=if 0<=i then(if i<n then some i.toNat else none) else if -(n:Int)<=i then some (i+n).toNat else none
def atI {α:Type}(xs:List α)(i:Int):Option α:=(ixN xs.length i).bind λj=>xs[j]?
theorem bD8 (h:ixN n i=some j):seqIndex? i n=some j/\j<n /\ -(n:Int)<=i/\i<n:=by
 unfold ixN at h;by_cases w:0<=i
 .rw[Ae w]at h;by_cases h1:i<n
  .rw[Ae h1]at h;have e:i.toNat=j:=Ab4 h;exact⟨by rw[seqIndex_of w h1,e],by lia,by lia,h1⟩
  .rw[Ac h1]at h;cases h
 .rw[Ac w]at h;by_cases h1 : -(n:Int)<=i
  .rw[Ae h1]at h;have e:(i+n).toNat=j:=Ab4 h;exact⟨by rw[seqIndex_neg (by lia) h1,e],by lia,h1,by lia⟩
  .rw[Ac h1]at h;cases h
theorem bG2 (h:atI xs i=some v):∃j,seqIndex? i xs.length=some j/\xs[j]? = some v/\j<xs.length /\ -(xs.length:Int)<=i/\i<xs.length:=by
 unfold atI at h;cases e:ixN xs.length i with
 | none=>rw[e]at h;cases h
 | some j=>
  rw[e]at h;obtain⟨h1,w,z,s⟩:=bD8 e;exact⟨j,h1,h,w,z,s⟩
def cZ1 (b:Expr):Prop:=∀o i,subscripted b false o i=operate [o,i] (getItem o i)
def IxR (X:Cx)(r:R2):Prop:=
 ∀(value slice:Expr) (aA:Eg) (s:Shared) (σ:St) (H:Hp) (x y:V) (v u:Value) (Q:VK),Inv X aA σ H s->RelV x v->RelV y u->r x y H Q ->
  subscripted slice false v u=operate [v,u] (getItem v u)->wpAny (model X.prog X.w) X.A (subscriptTail value slice v u) (EP X aA σ Q) X.xe s
def MtR (X:Cx)(id:String)(r:V->List V->Hp->VK->Prop):Prop:=
 ∀(aA:Eg) (s:Shared) (σ:St) (H:Hp) (x:V) (xs:List V) (v:Value) (us:List Value) (Q:VK),Inv X aA σ H s->RelV x v->Vals xs us->r x xs H Q ->
  wpAny (model X.prog X.w) X.A (call (.builtin id) (v::us)) (EP X aA σ Q) X.xe s
section
variable {X:Cx}{a b:Expr}{ta tb:TE}{pos:Pos}
theorem IxR.or (h:IxR X r)(h':IxR X r'):IxR X (λx y H Q=>r x y H Q\/r' x y H Q):=by
 intro w e z s σ H x y v u Q I Y U q m;rcases q with q | q
 .exact h w e z s σ H x y v u Q I Y U q m
 .exact h' w e z s σ H x y v u Q I Y U q m
theorem B1 (hr:IxR X r)(m:PE X a ta)(Y:PE X b tb)(U:cZ1 b):PE X (.Subscript a b pos) (tOp r ta tb):=by
 refine⟨?_⟩;intro z s σ H Q I h;exact Subscript_ (dM1 m Y I h λv u N x y e w J M q=>hr a b z N σ e x y v u Q w J M q (U _ _))
def dR4 (K:Frag):R2:=λx y H Q=>∃p xs i v,x=.ref p/\y=.int i/\SqL K H p xs/\atI xs i=some v/\Q v H
def dP7 (K:Frag):R2:=λx y H Q=>∃p xs i v,x=.ref p/\y=.int i/\SqT K H p xs/\atI xs i=some v/\Q v H
def dQ6:R2:=λx y H Q=>∃z i c,x=.str z/\y=.int i/\z.length<=sizeLine/\atI z.cps.toList i=some c/\Q (.str ⟨#[c]⟩) H
theorem ix_list:IxR X (dR4 X.K):=by
 intro J U M s σ H x y v u Q I rx ry h D;obtain⟨p,xs,i,z,rfl,rfl,hq,he,q⟩:=h;cases rx;obtain⟨t,rfl⟩:=ry;obtain⟨its,r,m,hz⟩:=I.list hq;obtain⟨j,h1,F,h3,B,P⟩:=bG2 he;obtain⟨w,N,Y⟩:=r.get F;have hl:=r.length;have hn:=aM8;have fin:EP X M σ Q w s:=⟨z,H,I,Y,q⟩;by_cases R:0<=i
 .have e:i.toNat=j:=by
   rw[seqIndex_of R P]at h1;exact Ab4 h1
  exact item_listR m.isList R (by lia) (by rw[e];simpa using N) fin D
 .have e:(i+(its.toArray.size:Int)).toNat=j:=by
   rw[seqIndex_neg (by lia) B]at h1
   rw[Ab2,<- hl];exact Ab4 h1
  exact subscriptTail_builtinR (x:=w) m.isList.typeIs slot_list_getitem.lookup
   (wpAny_getItem_list_neg (Q:=λr s'=>r=w/\EP X M σ Q r s') m.isList (by lia) (by rw[Ab2] <;> lia) (by lia) (by rw[e];simpa using N) ⟨rfl,fin⟩) D
theorem ix_tup:IxR X (dP7 X.K):=by
 intro Y m U s σ H x y v u Q I B P h F;obtain⟨p,xs,i,z,rfl,rfl,D,he,q⟩:=h;cases B;obtain⟨t,rfl⟩:=P;obtain⟨its,r,J,hz⟩:=I.tuple D;obtain⟨j,h1,N,h3,h4,h5⟩:=bG2 he;obtain⟨w,M,e⟩:=r.get N;have R:=r.length;have hn:=aM8;have fin:EP X U σ Q w s:=⟨z,H,I,e,q⟩;exact subscriptTail_builtinR (x:=w) J.typeIs slot_tuple_getitem.lookup
  (getItem_tuple (j:=j) (Q:=λr s'=>r=w/\EP X U σ Q r s') J (by lia) (by lia) (by rw[Ab2,<- R];exact h1) (by simpa using M) ⟨rfl,fin⟩) F
theorem dK1:IxR X dQ6:=by
 intro w e B s σ H x y v u Q I D F h R;obtain⟨z,i,c,rfl,rfl,hz,he,q⟩:=h;obtain⟨t,rfl⟩:=D;obtain⟨t',rfl⟩:=F;obtain⟨j,h1,U,P,J,M⟩:=bG2 he;have N:z.cps.toList.length=z.length:=by simp[Str.length]
 rw[N]at h1 J M;have hn:=aM8;exact tail_any (typeIs_str s z t) slot_str_getitem.lookup (getItem_str (c:=c) (by
  have m:decide (i < -(2^63:Int))=false:=Aq (by lia)
  have Y:decide (i≥2^63)=false:=Aq (by lia)
  rw[m,Y,Bool.or_false]) (by rw[h1];simpa using U) ⟨.str ⟨#[c]⟩,H,I.tok _,⟨_,rfl⟩,q⟩) R
def rIx (K:Frag):R2:=λx y H Q=>dR4 K x y H Q\/dP7 K x y H Q\/dQ6 x y H Q
theorem C2:IxR X (rIx X.K):=ix_list.or (ix_tup.or dK1)
theorem bQ1 (its:List Value)(n j:Nat)(u:Value):Obj.mapSeq (·.setIfInBounds j u) {cls:=.type "list",data:=.seq its.toArray n}={cls:=.type "list",data:=.seq (its.set j u).toArray n}:=by
 simp[Obj.mapSeq]
theorem Inv.lst (I:Inv X aA σ H s)(h:H p=some (.lst xs)) :
  ∃(its:List Value) (n:Nat),Vals xs its/\s.heap.get? p=some {cls:=.type "list",data:=.seq its.toArray n}/\xs.length<=sizeLine:=by
 obtain⟨z,its,n,r,e⟩:=I.hok p _ h;exact⟨its,n,r,e,z⟩
theorem Inv.lstUpd {aA:Eg}{σ:St}{H:Hp}{s:Shared}{p:Addr}{xs ys:List V}{its its':List Value}{n n':Nat}{f:Obj->Obj}(I:Inv X aA σ H s)(h:H p=some (.lst xs))
  (ho:s.heap.get? p=some {cls:=.type "list",data:=.seq its.toArray n}) (w:f {cls:=.type "list",data:=.seq its.toArray n}={cls:=.type "list",data:=.seq its'.toArray n'}) (r:Vals ys its') (m:ys.length<=sizeLine) (t:Nat) :
  Inv X aA σ (upd H p (.lst ys)) {s with heap:=s.heap.update p f,toks:=t}:=by
 have e:(s.heap.update p f).get? p=some {cls:=.type "list",data:=.seq its'.toArray n'}:=by
  rw[Bq f ho (by rw[w] <;> rfl),w]
 refine I.write (x:=p) (e:=p) (by rw[h];trivial) (.inl rfl) (λb u z q=>(Dj _ _ (Ne.symm z)).trans q) ⟨_,e⟩ ?_
 exact⟨m,its',n',r,e⟩
def cM3:V->V->V->Hp->(Hp->Prop)->Prop:=λo i v H Q=>∃p xs k j,o=.ref p/\i=.int k/\H p=some (.lst xs)/\ixN xs.length k=some j/\Q (upd H p (.lst (xs.set j v)))
theorem aY2:dP3 X cM3:=by
 intro J s σ H o i v ov iv u Q I D R F h;obtain⟨p,xs,k,j,rfl,rfl,hp,M,q⟩:=h;cases D;obtain⟨t,rfl⟩:=R;obtain⟨its,n,r,ho,N⟩:=I.lst hp;obtain⟨h1,B,Y,U⟩:=bD8 M;have w:=r.length;have P:=aM8;have z:Inv X J σ (upd H p (.lst (xs.set j v))) {s with heap:=s.heap.update p (Obj.mapSeq (·.setIfInBounds j u))}:=
  I.lstUpd hp ho (bQ1 its n j u) (r.set F j) (by rw[Eb];exact N) s.toks
 by_cases m:0<=k
 .have e:k.toNat=j:=by
   rw[seqIndex_of m U]at h1;exact Ab4 h1
  exact PySem.W.ki_setAt ho m (by lia) (by rw[Ab2,<- w];exact U) (by rw[e];exact⟨_,z,q⟩)
 .have e:(k+(its.toArray.size:Int)).toNat=j:=by
   rw[seqIndex_neg (by lia) Y]at h1
   rw[Ab2,<- w];exact Ab4 h1
  exact PySem.W.ki_setBack ho (by lia) (by rw[Ab2,<- w];exact Y) (by lia) (by rw[e];exact⟨_,z,q⟩)
theorem bH0 (lo hi:Option Int)(n:Nat):(sliceBounds lo hi none n).1=((HT.sIx n 0 lo:Nat):Int)/\(sliceBounds lo hi none n).2.1=((HT.sIx n n hi:Nat):Int)/\(sliceBounds lo hi none n).2.2=1:=by
 refine⟨?_,?_,rfl⟩
 .cases lo with
  | none=>simp[sliceBounds,HT.sIx]
  | some i=>
   simp only[sliceBounds,HT.sIx,Option.getD_none,show(1:Int)>0 by decide,if_true]
   by_cases h:i<0
   .simp only[h,if_true] <;> lia
   .simp only[h,if_false] <;> lia
 .cases hi with
  | none=>simp[sliceBounds,HT.sIx]
  | some i=>
   simp only[sliceBounds,HT.sIx,Option.getD_none,show(1:Int)>0 by decide,if_true]
   by_cases h:i<0
   .simp only[h,if_true] <;> lia
   .simp only[h,if_false] <;> lia
theorem aZ2 (its:List Value)(lo hi:Option Int):slicePick its.toArray lo hi none=((its.drop (HT.sIx its.length 0 lo)).take (HT.sIx its.length its.length hi-HT.sIx its.length 0 lo)).toArray:=by
 obtain⟨h1,e,w⟩:=bH0 lo hi its.toArray.size;unfold slicePick;rw[h1,e,w];simp only[sliceRange_one,pick_run,Ab2] <;> rfl
def dA7 (K:Frag):V->Option Int->Option Int->Hp->VK->Prop:=λx lo hi H Q=>∃a xs,x=.ref a/\SqL K H a xs/\∀p,H p=none->Q (.ref p) (upd H p (.lst (bH8 xs lo hi)))
theorem bI4:SlR X (dA7 X.K):=by
 intro N s σ H x v D F lo hi R Q I M z U J h;obtain⟨a,xs,rfl,m,q⟩:=h;cases M;obtain⟨its,r,w,Y⟩:=I.list m;have e:=r.length;refine⟨"list",_,slot_list_getitem.lookup,w.isList.typeIs,?_⟩;refine wpAny_getItem_list_slice w.isList z U J .none (by simp) ?_ (by rw[Ab2] <;> lia)
 rw[aZ2,<- e];refine⟨.ref s.heap.objs.size,_,I.laid (t':=s.toks) (o:=.lst (bH8 xs lo hi)) (λb ob q=>Aa6 _ q) (Aa7 _) ?_,rfl,q _ (I.hok.fresh (Aa7 _))⟩
 exact⟨Bi (aO3 xs lo hi) Y,_,0,(r.drop (HT.sIx xs.length 0 lo)).take (HT.sIx xs.length xs.length hi-HT.sIx xs.length 0 lo),Ac3 _ rfl⟩
theorem K3:P6 X (.builtin "len") (λxs H Q=>∃p ys,xs=[.ref p]/\(SqL X.K H p ys\/SqT X.K H p ys)/\Q (.int ys.length) H):=by
 intro U s σ H xs M Q I r h;obtain⟨p,ys,rfl,hq,q⟩:=h;obtain⟨u,rfl,Y⟩:=T1 r;cases Y;have J:=aM8;rcases hq with hq | hq
 .obtain⟨its,z,w,m⟩:=I.list hq;have e:=z.length;exact Calls.call_len_list w.isList (by simp only[Ab2] <;> lia) ⟨.int ys.length,H,I.tok _,⟨s.toks+1,by rw[Ab2,e]⟩,q⟩
 .obtain⟨its,z,w,m⟩:=I.tuple hq;have e:=z.length;exact len_tuple w (by simp only[Ab2] <;> lia) ⟨.int ys.length,H,I.tok _,⟨s.toks+1,by rw[Ab2,e]⟩,q⟩
theorem bI1:P6 X (.type "list") (λxs H Q=>∃p ys,xs=[.ref p]/\(SqL X.K H p ys\/SqT X.K H p ys)/\∀l,H l=none->Q (.ref l) (upd H l (.lst ys))):=by
 intro F s σ H xs P Q I r h;obtain⟨p,ys,rfl,hq,q⟩:=h;obtain⟨u,rfl,B⟩:=T1 r;cases B;have fin:∀(its:List Value),Vals ys its->ys.length<=sizeLine->∀(z:Heap) (m:Nat),(∀b D,s.heap.get? b=some D->z.get? b=some D) ->
   z.get? s.heap.objs.size=some {cls:=.type "list",dict:=none,data:=.seq its.toArray m,slots := #[]}->EP X F σ Q (.ref s.heap.objs.size) {s with heap:=z}:=λits Y J z m kp e=>
  ⟨.ref s.heap.objs.size,_,I.laid (t':=s.toks) kp (Aa7 _) (show ObjOk X.prog X.w _ z _ (.lst ys) from⟨J,its,m,Y,e⟩),rfl,q _ (I.hok.fresh (Aa7 _))⟩
 rcases hq with hq | hq
 .obtain⟨its,Y,R,J⟩:=I.list hq;have U:=Y.length;obtain⟨o,ho,M,n,N⟩:=R.isList;exact call_list_seq p (.inl rfl) ho M N (λz m kp e=>fin its Y J z m kp e) (by simp only[Ab2] <;> lia)
 .obtain⟨its,Y,R,J⟩:=I.tuple hq;have U:=Y.length;obtain⟨o,ho,M,n,N⟩:=R;exact call_list_seq p (.inr rfl) ho M N (λz m kp e=>fin its Y J z m kp e) (by simp only[Ab2] <;> lia)
theorem O6:P6 X (.type "tuple") (λxs H Q=>∃p ys,xs=[.ref p]/\((SqL X.K H p ys/\∀l,H l=none->Q (.ref l) (upd H l (.tup ys)))\/(SqT X.K H p ys/\Q (.ref p) H))):=by
 intro M s σ H xs B Q I r h;obtain⟨p,ys,rfl,h⟩:=h;obtain⟨u,rfl,F⟩:=T1 r;cases F;rcases h with⟨m,q⟩ | ⟨m,q⟩
 .obtain⟨its,U,Y,R⟩:=I.list m;have N:=U.length;refine call_tuple_list Y.isList (λz kp=>?_) (by simp only[Ab2] <;> lia)
  have J:Inv X M σ H {s with heap:=z}:=I.kept (t':=s.toks) kp
  have D:Inv X M σ (upd H z.objs.size (.tup ys)) {s with heap:=z.push {cls:=.type "tuple",data:=.seq its.toArray}}:=
   J.laid (t':=s.toks) (λb o e=>Aa6 _ e) (Aa7 _) (show ObjOk X.prog X.w _ _ _ (.tup ys) from⟨R,its,U,Tup0.nw _ _ _⟩)
  exact⟨.ref z.objs.size,_,D,rfl,q _ (J.hok.fresh (Aa7 _))⟩
 .obtain⟨its,U,Y,R⟩:=I.tuple m;exact call_tuple_same Y ⟨.ref p,H,I,rfl,q⟩
def tyV (K:Frag)(T:String)(x:V)(H:Hp):Prop:=match x with
 | .str _=>T = "str"
 | .int _=>T = "int"
 | .ref p=>(T = "list" /\ ∃xs,SqL K H p xs)\/(T = "tuple" /\ ∃xs,SqT K H p xs) \/
   (T = "dict" /\ ((∃kvs,H p=some (.dK kvs))\/∃kvs,H p=some (.dT kvs)))\/(T = "set" /\ ∃S n,H p=some (.set S n))
 | _=>False
theorem cR3 (I:Inv X aA σ H s)(r:RelV x v)(ty:tyV X.K T x H) :
  s.TypeIs v T/\∀a,v=.ref a->∃ob,s.heap.get? a=some ob/\ob.dict=none:=by
 cases x with
 | str z=>
  obtain⟨t,rfl⟩:=r;cases (show T = "str" from ty)
  exact⟨typeIs_str s z t,λ_ e=>nomatch e⟩
 | int i=>
  obtain⟨t,rfl⟩:=r;cases (show T = "int" from ty)
  exact⟨typeIs_int s i t,λ_ e=>nomatch e⟩
 | ref p=>
  cases r
  rcases ty with⟨rfl,xs,U⟩ | ⟨rfl,xs,U⟩ | ⟨rfl,m⟩ | ⟨rfl,S,n,m⟩
  .obtain⟨its,_,J,_⟩:=I.list U;refine⟨J.isList.typeIs,λa e=>?_⟩
   cases e
   obtain⟨o,n,e,c,R,_⟩:=J;exact⟨o,e,R⟩
  .obtain⟨its,_,Q,_⟩:=I.tuple0 U;obtain⟨o,h1,M,_,N⟩:=Q;refine⟨⟨o,h1,M⟩,λa e=>?_⟩
   cases e
   exact⟨o,h1,N⟩
  .have z:∃o,s.heap.get? p=some o/\o.ExactDict:=by
    rcases m with⟨kvs,m⟩ | ⟨kvs,m⟩
    .obtain⟨_,_,_,_,o,_,_,e,w,_⟩:=I.hok p _ m;exact⟨o,e,w⟩
    .obtain⟨_,_,_,_,o,_,_,e,w,_⟩:=I.hok p _ m;exact⟨o,e,w⟩
   obtain⟨o,e,w⟩:=z;refine⟨⟨o,e,w.1⟩,λa Y=>?_⟩
   cases Y
   exact⟨o,e,w.2.1⟩
  .obtain⟨o,_,_,_,e,w,_⟩:=I.hok p _ m;refine⟨⟨o,e,w.1⟩,λa Y=>?_⟩
   cases Y
   exact⟨o,e,w.2.1⟩
 | _=>exact False.elim ty
def dK3 (K:Frag)(T:String)(r:V->List V->Hp->VK->Prop)(to:TE):TE:=λσ H Q=>to σ H λx H1=>tyV K T x H1/\r x [] H1 Q
def tBM (K:Frag)(T:String)(r:V->List V->Hp->VK->Prop)(to:TE)(t:TA):TE:=λσ H Q=>to σ H λx H1=>tyV K T x H1/\t σ H1 λxs H2=>r x xs H2 Q
variable {o e:Expr}{es:List Expr}{to:TE}{t:TA}{name:Str}{apos cpos:Pos}{T id:String}{r:V->List V->Hp->VK->Prop}
theorem aV2 (pa:PlainAttrs T)(slot:Slot T name id)(m:typeOf (.builtin id)=pure (.type "method_descriptor"))(N:MtR X id r)(ho:PE X o to)
  (w:attributeBase o name X.env (eval o X.env)=eval o X.env:=by rfl) (z:(apos.endLine==cpos.line)=true:=by rfl):PE X (.Call (.Attribute o name apos) [] [] cpos) (dK3 X.K T r to):=by
 refine⟨?_⟩;intro U s σ H Q I h;refine wpAny_Call_method0_late w z (thn (ho U s σ H _ I h) λv D ⟨x,H1,Y,J,ty,R⟩=>?_)
 obtain⟨h1,M⟩:=cR3 Y J ty;exact⟨T,id,pa,slot,m,h1,M,Calls.callWith_builtin rfl (PySem.evalArgs_none (N U D σ H1 x [] v [] Q Y J .nil R))⟩
theorem K9 (pa:PlainAttrs T)(slot:Slot T name id)(J:typeOf (.builtin id)=pure (.type "method_descriptor"))(hm:MtR X id r)(ho:PE X o to)(P:PA X (e::es) t)
  (z:attributeBase o name X.env (eval o X.env)=eval o X.env:=by rfl)
  (Y:((backTo cpos (starEach (e::es) X.env)).all (λx => !x.1)&&(backToKw cpos (keywordEach [] X.env)).all (λx=>x.1.isSome)
   && decide ((e::es).length+([]:List Keyword).length+(if([]:List Keyword).isEmpty then 0 else 1)<30))=true:=by rfl)
  (m:(apos.endLine==cpos.line)=true:=by rfl) (hs:starEach (e::es) X.env=(false,eval e X.env)::starEach es X.env:=by rfl) (w:(backTo cpos (starEach es X.env)).any (·.1)=false:=by rfl) :
  PE X (.Call (.Attribute o name apos) (e::es) [] cpos) (tBM X.K T r to t):=by
 refine⟨?_⟩;intro U s σ H Q I h;refine wpAny_Call_method_late z Y m rfl (thn (ho U s σ H _ I h) λv s1 ⟨x,H1,M,R,ty,q1⟩=>?_)
 obtain⟨h1,B⟩:=cR3 M R ty;refine⟨T,id,pa,slot,J,h1,B,?_⟩;have N:=P cpos U s1 σ H1 _ M q1;rw[hs]at N ⊢;refine Calls.callWith_builtin (by show(false||(backTo cpos (starEach es X.env)).any (·.1))=false;rw[w] <;> rfl) (Calls.evalArgs_plain ?_)
 exact thn N λus s2 ⟨vs,D,F,r2,q2⟩=>hm U s2 σ D x vs v us Q F R r2 q2
end
def MtM (X:Cx)(id:String)(r:V->List V->Hp->VK->Prop):Prop:=
 ∀(aA:Eg) (s:Shared) (σ:St) (H:Hp) (x:V) (xs:List V) (v:Value) (us:List Value) (Q:VK),Inv X aA σ H s->RelV x v->Vals xs us->r x xs H Q ->
  wpAny (model X.prog X.w) X.A (call (.builtin id) (v::us)) (EP X aA σ Q) X.xe s
theorem Vals.one:∀{x:V} {us:List Value},Vals [x] us->∃u,us=[u]/\RelV x u
 | _,_,.cons r .nil=>⟨_,rfl,r⟩
theorem Vals.zero:∀{us:List Value},Vals [] us->us=[]
 | _,.nil=>rfl
theorem Vals.dropLast {xs:List V}{us:List Value}(h:Vals xs us):Vals xs.dropLast us.dropLast:=by
 induction h with
 | nil=>exact .nil
 | cons r t e=>
  cases t with
  | nil=>exact .nil
  | cons q w=>exact .cons r e
theorem Vals.eraseIdx:∀{xs:List V} {us:List Value} (i:Nat),Vals xs us->Vals (xs.eraseIdx i) (us.eraseIdx i)
 | _,_,_,.nil=>.nil
 | _,_,0,.cons _ t=>t
 | _,_,i+1,.cons r t=>.cons r (Vals.eraseIdx i t)
theorem Vals.rep (h:Vals xs us):∀k:Nat,Vals (List.replicate k xs).flatten (List.replicate k us).flatten
 | 0=>.nil
 | k+1=>by
  rw[Bx,Bx,Ck,Ck];exact Vals.append h (Vals.rep h k)
theorem bR1 (l:List α):l.eraseIdx (l.length-1)=l.dropLast:=by
 induction l with
 | nil=>rfl
 | cons a r w=>
  cases r with
  | nil=>rfl
  | cons b r=>
   have e:(a::b::r).length-1=((b::r).length-1)+1:=by
    have h1:(a::b::r).length=r.length+2:=rfl
    have z:(b::r).length=r.length+1:=rfl
    lia
   rw[e,List.eraseIdx_cons_succ,w]
   all_goals rfl
theorem bC2:∀(l:List α) (i:Nat),(l.eraseIdx i).length<=l.length
 | [],_=>Aa7 _
 | _::_,0=>Nat.le_succ _
 | _::r,i+1=>Nat.succ_le_succ (bC2 r i)
theorem aZ9 (its:List Value):∀(k:Nat) (acc:List Value),
  List.foldl (λx1 x2=>x1++x2) acc.toArray (List.replicate k its.toArray)=(acc++(List.replicate k its).flatten).toArray
 | 0,acc=>by simp
 | k+1,acc=>by
  have e:acc.toArray++its.toArray=(acc++its).toArray:=by simp
  have w:(acc++its)++(List.replicate k its).flatten=acc++(List.replicate (k+1) its).flatten:=by
   rw[Bx,Ck,Ad7]
  rw[<- w,<- aZ9 its k (acc++its),<- e,Bx,List.foldl_cons]
section
variable {X:Cx}{aA:Eg}{σ:St}{H:Hp}{s:Shared}{l b:Addr}{xs ys zs:List V}
theorem Inv.lset {its its':List Value}{n:Nat}{f:Array Value->Array Value}{t':Nat}(I:Inv X aA σ H s)(w:H l=some (.lst xs))
  (e:s.heap.get? l=some {cls:=.type "list",data:=.seq its.toArray n}) (m:f its.toArray=its'.toArray) (U:Vals ys its') (J:ys.length<=sizeLine) :
  Inv X aA σ (upd H l (.lst ys)) {s with heap:=s.heap.update l (Obj.mapSeq f),toks:=t'}:=by
 have q:=PySem.IsL.update e f
 rw[m]at q;refine I.write (x:=l) (e:=l) (by rw[w];exact trivial) (.inl rfl) (λM u z Y=>(Dj s.heap (Obj.mapSeq f) (Ne.symm z)).trans Y) ⟨_,q⟩ ?_
 exact⟨J,its',_,U,q⟩
theorem Inv.lnew (I:Inv X aA σ H s)(e:Vals ys its)(w:ys.length<=sizeLine) :
  Inv X aA σ (upd H s.heap.objs.size (.lst ys)) {s with heap:=s.heap.push {cls:=.type "list",data:=.seq its.toArray},toks:=t'}:=
 I.laid (λ_ _ q=>Aa6 _ q) (Aa7 _) ⟨w,its,0,e,Ac3 _ rfl⟩
theorem Inv.fresh (I:Inv X aA σ H s):H s.heap.objs.size=none:=I.hok.fresh (Aa7 _)
theorem Inv.lstM (I:Inv X aA σ H s)(w:H l=some (.lst xs)):xs.length<=sizeLine/\∃(its:List Value) (n:Nat),Vals xs its/\xs.length=its.length/\s.heap.get? l=some {cls:=.type "list",data:=.seq its.toArray n}:=by
 obtain⟨z,its,n,r,e⟩:=I.hok l _ w;exact⟨z,its,n,r,r.length,e⟩
theorem bM1 (h:n<=sizeLine):Builtin.List.listTooLong n=false:=by
 unfold Builtin.List.listTooLong;exact Aq (by lia)
end
section
variable {X:Cx}
def aH6:V->List V->Hp->VK->Prop:=λx vs H Q=>∃l xs y,x=.ref l/\vs=[y]/\H l=some (.lst xs)/\xs.length<sizeLine/\Q .non (upd H l (.lst (xs++[y])))
theorem D5:MtM X "list.append" aH6:=by
 intro J s σ H x vs v R Q I U Y h;obtain⟨l,xs,y,rfl,rfl,w,N,q⟩:=h;cases U;obtain⟨u,rfl,m⟩:=Y.one;obtain⟨z,its,n,r,M,e⟩:=I.lstM w;refine call_meets F.slot_list_append ⟨_,e,rfl⟩ F.entry_list_append (F.args_list_append_2 _ _) (PySem.list_append l its.toArray n u (by rw[Ab2];lia)) ⟨e,?_⟩
 refine⟨.non,_,I.lset (its':=its++[u]) w e (by simp) (r.append (.cons m .nil)) ?_,rfl,q⟩
 rw[Ab7,List.length_singleton]
 lia
def cD3:V->List V->Hp->VK->Prop:=λx vs H Q=>∃l b xs zs,x=.ref l/\vs=[.ref b]/\H l=some (.lst xs)/\H b=some (.lst zs)/\xs.length+zs.length<=sizeLine/\Q .non (upd H l (.lst (xs++zs)))
theorem cG0:MtM X "list.extend" cD3:=by
 intro aA s σ H x vs v us Q I rx P h;obtain⟨l,b,xs,zs,rfl,rfl,U,M,hz,q⟩:=h;cases rx;obtain⟨u,rfl,B⟩:=P.one;cases B;obtain⟨z,its,n,r,hl,e⟩:=I.lstM U;obtain⟨z2,w,R,D,N,J⟩:=I.lstM M;have Y:its.toArray.size+w.toArray.size<=sizeLine:=by rw[Ab2,Ab2];lia
 have m:¬(!its.toArray.isEmpty&&Builtin.List.listTooLong (its.toArray.size+w.toArray.size))=true:=by
  rw[bM1 Y,Bool.and_false];exact Ai
 refine call_meets F.slot_list_extend ⟨_,e,rfl⟩ F.entry_list_extend (F.args_list_extend_2 _ _)
  (AutoSeq1.list_extend_list_list_0 l its.toArray n b w.toArray R m (by rw[Ab2];lia) (by lia)) ⟨e,J,?_⟩
 refine⟨.non,_,I.lset (its':=its++w) U e (by simp) (r.append D) ?_,rfl,q⟩
 rw[Ab7]
 lia
def dH5:V->List V->Hp->VK->Prop:=λx vs H Q=>∃l xs y,x=.ref l/\vs=[]/\H l=some (.lst xs)/\xs[xs.length-1]? = some y/\Q y (upd H l (.lst xs.dropLast))
theorem aT3:MtM X "list.pop" dH5:=by
 intro B s σ H x vs v P Q I D R h;obtain⟨l,xs,y,rfl,rfl,Y,M,q⟩:=h;cases D;have w:=R.zero;subst w;obtain⟨z,its,n,r,U,e⟩:=I.lstM Y;obtain⟨u,J,N⟩:=r.get M;have m:its.toArray[its.toArray.size-1]? = some u:=by
  show its.toArray[its.length-1]? = some u
  rw[<- Array.getElem?_toList,<- U];exact J
 refine call_meets F.slot_list_pop ⟨_,e,rfl⟩ F.entry_list_pop (F.args_list_pop_1 _) (MeetsSeq.list_pop_last l its.toArray n u m (by rw[Ab2];lia)) ⟨e,?_⟩
 refine⟨y,_,I.lset (its':=its.dropLast) Y e ?_ r.dropLast ?_,N,q⟩
 .show its.toArray.eraseIdxIfInBounds (its.toArray.size-1)=its.dropLast.toArray
  rw[Ab2,List.eraseIdxIfInBounds_toArray,bR1]
 .rw[List.length_dropLast]
  lia
def cS4:V->List V->Hp->VK->Prop:=λx vs H Q=>∃l xs i k y,x=.ref l/\vs=[.int i]/\H l=some (.lst xs) /\ -(2^63)<=i/\i<2^63/\seqIndex? i xs.length=some k/\xs[k]? = some y/\Q y (upd H l (.lst (xs.eraseIdx k)))
theorem cM4:MtM X "list.pop" cS4:=by
 intro aA s σ H x vs v us Q I P B h;obtain⟨l,xs,i,k,y,rfl,rfl,Y,h1,U,J,R,q⟩:=h;cases P;obtain⟨u,rfl,D⟩:=B.one;obtain⟨t,rfl⟩:=D;obtain⟨z,its,n,r,M,e⟩:=I.lstM Y;obtain⟨w,N,m⟩:=r.get R;refine call_meets F.slot_list_pop ⟨_,e,rfl⟩ F.entry_list_pop (F.args_list_pop_2 _ _)
  (MeetsSeq.list_pop_at l its.toArray n i t k w (fitsIndex_both h1 U) (by rw[Ab2,<- M];exact J) (by rw[<- Array.getElem?_toList];exact N) (by rw[Ab2];lia)) ⟨e,?_⟩
 refine⟨y,_,I.lset (its':=its.eraseIdx k) Y e ?_ (r.eraseIdx k) ?_,m,q⟩
 .show its.toArray.eraseIdxIfInBounds k=(its.eraseIdx k).toArray
  rw[List.eraseIdxIfInBounds_toArray]
 .have:=bC2 xs k
  lia
def dP9:R2:=λx y H Q=>∃l k xs,x=.ref l/\y=.int k/\H l=some (.lst xs) /\ -(2^63)<=k/\k<2^63/\xs.length*k.toNat<=sizeLine /\
 ∀p,H p=none->Q (.ref p) (upd H p (.lst (List.replicate k.toNat xs).flatten))
theorem dC1 (xs:List α)(k:Nat):(List.replicate k xs).flatten.length=k*xs.length:=by
 induction k with
 | zero=>simp
 | succ k e=>rw[Bx,Ck,Ab7,e,Nat.succ_mul,Nat.add_comm]
theorem cN8:OpR X (binaryOp .Mult) dP9:=by
 intro aA s σ H x y v u Q I rx ry h;obtain⟨l,k,xs,rfl,rfl,hH,h1,h2,B,q⟩:=h;cases rx;obtain⟨t,rfl⟩:=ry;obtain⟨z,its,n,r,hl,e⟩:=I.lstM hH;have M:its.toArray.size*k.toNat<=sizeLine:=by rw[Ab2,<- hl];exact B
 have Y:¬its.toArray.size*k.toNat>(2^63-1) / 8:=by
  have:(sizeLine:Nat)<=(2^63-1) / 8:=by decide
  lia
 have J:¬(!Builtin.List.listFitsIndex k)=true:=by
  rw[fitsIndex_both h1 h2];exact Ai
 have w:¬Builtin.List.listTooLong (its.toArray.size*k.toNat)=true:=by
  rw[bM1 M];exact Ai
 have N:List.foldl (λR D=>R++D) #[] (List.replicate (if its.toArray.isEmpty=true then 0 else k.toNat) its.toArray)=(List.replicate k.toNat its).flatten.toArray:=by
  have P:∀m:Nat,List.foldl (λR D=>R++D) #[] (List.replicate m its.toArray)=(List.replicate m its).flatten.toArray:=λm=>by
   have:=aZ9 its m []
   rw[List.nil_append]at this;exact this
  rw[P];cases its with
  | nil=>simp
  | cons a r'=>rw[Ac (by simp)]
 refine wpAny_binaryOp_repeat_ref (T := "list") (U := "int") (by decide) ⟨_,e,rfl⟩ (λs'=>typeIs_int s' k t) noFill_list_mul F.fills_int_mul F.slot_int_rmul repeat_list F.slot_int_index.lookup
  (call_meets F.slot_int_rmul (typeIs_int s k t) F.entry_int_rmul (F.args_int_rmul_2 _ _) (int___rmul___int_list k t l its.toArray n)
   ⟨e,rfl,⟨_,e,rfl⟩,call_meets F.slot_list_mul ⟨_,e,rfl⟩ F.entry_list_mul (F.args_list_mul_2 _ _) (AutoListH.list___mul___list_int_3 l its.toArray n k t J Y w) ⟨e,?_⟩⟩)
 rw[N];exact⟨.ref _,_,I.lnew (t':=s.toks) (r.rep k.toNat) (by rw[dC1,Nat.mul_comm];exact B),rfl,q _ I.fresh⟩
end
end L2
namespace Att
open PySem PySem.W PySem.Calls PyProof.Rows
theorem aP5:∀(ns:List Int) (vs:List Value),WellAll P h vs (ns.map WData.int)->IntsAre vs ns:=by
 intro ns;induction ns with
 | nil=>
  intro vs w;rw[Cs]at w;cases w;exact .nil
 | cons n ns ih=>
  intro vs w;rw[Ac7]at w;cases w with
  | cons a b=>
   cases a
   exact .cons _ _ (ih _ b)
theorem cE1 {l:OpenLaw}{n:Nat}(N:l.most=some n){P:Params}{h:Heap}{args:List WData}{vals:List Value}
  (e:l.row.toRowW.claim.pre args=true) (X:WellAll P h vals args) :
  ∃a vs ns,vals=[Value.ref a]/\args=[WData.list (ns.map WData.int)]/\h.get? a=some {cls:=.type "list",data:=.seq vs.toArray}/\IntsAre vs ns/\ns.length<=n:=by
 have Y:WShape.hasAll [] args [.list .int]=true:=(pre_splitW e).1
 have U:l.pre.holds [] {args:=args}=true:=(pre_splitW e).2
 obtain⟨d,r,rfl,h1,J⟩:=hasAllW_cons Y;obtain rfl:=hasAllW_nil J;obtain⟨xs,rfl,M⟩:=hasW_list h1;obtain⟨ns,rfl⟩:=items_int M;have z:ns.length<=n:=by
  unfold OpenLaw.pre at U;have s:(WTm.not (.lt (.lit (.int (n:Int))) (.len (.arg 0)))).holds [] {args:=[.list (ns.map .int)]}=true:=by
   have s:=(holds_andW U).1
   rw[N]at s;exact s
  have m:=condW_of s (w_not (w_lt w_lit (w_len_list (w_arg rfl))))
  rw[Aa3]at m;refine Nat.le_of_not_lt λq=>?_
  have R:(n:Int)<((ns.length:Nat):Int):=by lia
  first
   | (rw[Bc R]at m;exact absurd m (by decide))
   | (simp at m;lia)
 cases X with
 | cons Q D=>
  cases D
  cases Q with
  | list ho w=>exact⟨_,_,ns,rfl,rfl,ho,aP5 ns _ w,z⟩
theorem cF2 (l:OpenLaw)(args:List WData):l.row.toRowW.claim.post args (.bool true) args=true:=
 postW_of (r:=l.row.toRowW) (X:=(true==true))
  (show WShape.has [] (.bool true) .bool=true by first | rfl | decide | simp[WShape.has,WShape.arms,WShape.armsAll])
  (show(WTm.eq .res (.lit (.bool true))).value [] {args:=args,res:=some (.bool true),after:=args}=some (.bool (true==true)) from w_eq_bool (w_res rfl) w_lit) rfl
theorem bM9 {l:OpenLaw}{n:Nat}{q:Program}{loose:List Str}{XP:(Str->Option Value)->Heap->Prop}{YP:World->Heap->Prop}{d:DefRec}
  (hn:l.most=some n) (U:d.params.defaults=[])
  (call:∀(w:World) (s₀ s₁:Shared) (mg mb:Str->Option Value) (fa:Addr) (o:Obj) (pm cd doc:Value) (a:Addr) (vs:List Value) (ns:List Int),
   Ground q loose [] XP w s₀ mg mb s₁.heap->YP w s₁.heap ->
   s₁.heap.get? fa=some o->o.data=.func (docDef d.name d.params d.body d.scope pm cd doc)->s₁.heap.CodeRec cd d.name->mg d.name=some (.ref fa) ->
   s₁.heap.get? a=some {cls:=.type "list",data:=.seq vs.toArray}->IntsAre vs ns->ns.length<=n->s₁.gens = #[] ->
   codeAny (model l.prog w) callerA (.call (.ref fa) ⟨[.ref a],[]⟩) (λr s'=>r=.ok (.ret (.bool true))/\OldK s₁.heap s'.heap/\s'.os=s₁.os/\AllBare s'.gens) s₁) :
  WalkO q loose XP YP l.row.toRowW d [] (λf vs=>PySem.call f vs):=by
 intro w s₀ s₁ mg mb G Y fa o pm cd doc F kV ho hd X R J hg N D as m Q hrd M hlo;obtain rfl:F=.none:=Dflts.none R U;obtain rfl:kV=.none:=Dflts.noKw R;obtain⟨a,vs,ns,rfl,rfl,s,e,z⟩:=cE1 hn m M;refine enter_call (codeAny_mono (call w s₀ s₁ mg mb fa o pm cd doc a vs ns G Y ho (fd_plain hd) X J s e z hg) λr s' hq=>?_)
 obtain⟨rfl,B,P,h4⟩:=hq;exact⟨.inl ⟨.bool true,.bool true,[],rfl,λ_=>rfl,.bool true,cF2 l _,λ_=>⟨List.Pairwise.nil,λ_ hm=>(nomatch hm)⟩⟩,B,P,h4⟩
section
variable {prog:Program}{w:World}{A:Around}{E:Ef}{s:Shared}{K:Frag}
def bU4 (h:Heap):Heap:={h with objs := #[]}
theorem O9 (h:Heap)(b:Addr):(bU4 h).get? b=none:=by
 cases e:(bU4 h).get? b with
 | none=>rfl
 | some o=>exact absurd (Ab3 e) (Nat.not_lt_zero _)
theorem cO7 (n:h.Ns L m):Fr (bU4 h) L h m:=
 ⟨n,λb o e=>(by rw[O9]at e;cases e),Ci _⟩
end
end Att
namespace L2
open PySem PySem.Spec PyProof.Rows
theorem S1:∀{vs:List Value} {ns:List Int},IntsAre vs ns->Vals (ns.map V.int) vs
 | _,_,.nil=>.nil
 | _,_,.cons n t h=>.cons ⟨t,rfl⟩ (S1 h)
def dK7 (H:Hp):Prop:=∀b,H b=none\/∃o xs,H b=some (.frz o (.lst xs))
theorem cN1 {P:Program}{w:World}{K:Frag}{mg mb:Str->Option Value}{CX:CXT}{k:Nat}{fa a:Addr}{fd:FuncData}{x:Str}{sp:Sp}{s₁:Shared}{vs:List Value}{ns:List Int}
  (KX:K.In s₁.heap) (hns:s₁.heap.Ns mainGlobals mg) (X:s₁.heap.Ns builtinsNs mb) (hbb:∀x:Str,x≠"__name__" -> mb x=bootBuiltins x) (B:s₁.heap.NoLimit) (hg:s₁.gens = #[])
  (ha:s₁.heap.get? a=some {cls:=.type "list",data:=.seq vs.toArray}) (hi:IntsAre vs ns) (hl:ns.length<=sizeLine) (hr:Room k callerA)
  (F:∀base:Heap,K.In base->base.Ns mainGlobals mg->D2 P w K mg base CX k fa fd [x] sp) (M:∀(s:Shared) (u:Value),BindsTo s fd ⟨[u],[]⟩ [(x,u)])
  (hsp:∀H:Hp,dK7 H->SqL K H a (ns.map V.int)->sp [.ref a] H (λv _=>v=.bl true) λ_ _ _=>False)
  (hCX:∀H e s',CX [] H s₁ (λ_ _ _=>False) e s'->False) :
  codeAny (model P w) callerA (.call (.ref fa) ⟨[.ref a],[]⟩) (λr s'=>r=.ok (.ret (.bool true))/\OldK s₁.heap s'.heap/\s'.os=s₁.os/\AllBare s'.gens) s₁:=by
 have rv:=S1 hi
 have X3:=hi.length
 have J:∀H:Hp,dK7 H->SqL K H a (ns.map V.int)->HOk P w H s₁.heap->(∀b,H b≠none->b=a)->(H a≠none->K.lookup a=none) ->
   codeAny (model P w) callerA (.call (.ref fa) ⟨[.ref a],[]⟩) (λr s'=>r=.ok (.ret (.bool true))/\OldK s₁.heap s'.heap/\s'.os=s₁.os/\AllBare s'.gens) s₁:=by
  intro H hO hS hok hA hK;have Y:∀{b:Addr} {o:Obj},s₁.heap.get? b=some o->H b=none->(bF0 s₁.heap H).get? b=some o:=λe n=>cJ3 e n
  have noA:∀{b:Addr} {o:Obj} {Q:Array DictEntry} {R:Nat},s₁.heap.get? b=some o->o.data=.dict Q R->H b=none:=λ{b o Q R} e d=>by
   cases q:H b with
   | none=>rfl
   | some u=>
    have e':b=a:=hA b (by rw[q];simp)
    subst e';rw[ha]at e;cases e;have d':Data.seq vs.toArray _=Data.dict Q R:=d;cases d'
  have U:∀{b:Addr} {m:Str->Option Value},s₁.heap.Ns b m->(bF0 s₁.heap H).Ns b m:=λ{b m} ⟨o,Q,R,e,d,r⟩=>⟨o,Q,R,Y e (noA e d),d,r⟩
  have D:K.In (bF0 s₁.heap H):=λb o e=>Y (KX b o e) (by
   cases q:H b with
   | none=>rfl
   | some u=>
    have e':b=a:=hA b (by rw[q];simp)
    subst e';rw[hK (by rw[q];simp)]at e;cases e)
  have hM:Mod K mg (bF0 s₁.heap H):=⟨D,U hns,⟨mb,U X,hbb⟩,let ⟨mc,h1,h2⟩:=B;⟨mc,U h1,h2⟩⟩
  have e0:dA1 P w K mg (bF0 s₁.heap H) callerA [] s₁ H:=⟨rfl,hM,λb o e=>cV4 e,Nat.le_of_eq (cE3 _ _),trivial,λb X=>absurd (show b∈([]:List Addr) from X) (by simp),hok,.of_eq hg⟩
  refine codeAny_mono ((F _ D (U hns)).run callerA [] s₁ H ⟨[.ref a],[]⟩ [.ref a] [.ref a] _ _ hr e0 (M s₁ (.ref a)) (.cons rfl .nil) (hsp H hO hS)) λr s' h=>?_
  cases r with
  | error e=>exact(hCX H e s' h).elim
  | ok fl=>
   cases fl with
   | next=>exact False.elim h
   | brk=>exact False.elim h
   | cont=>exact False.elim h
   | ret u=>
    obtain⟨v,H',os,N,un,hok',r',q⟩:=h;have q':v=.bl true:=q;subst q';obtain rfl:u=Value.bool true:=r';refine⟨rfl,OldK.of_keep λb o e=>?_,os,N⟩
    cases q:H b with
    | none=>exact un.keep b o e q (by intro z;exact absurd (show b∈([]:List Addr) from z) (by simp)) (by simp)
    | some u=>
     rcases hO b with z | ⟨ob,xs,z⟩
     .rw[q]at z;cases z
     .have z2:=un.frzs b ob _ z
      obtain⟨e1,_⟩:=hok b _ z;obtain⟨e2,_⟩:=hok' b _ z2;rw[e]at e1;cases e1;exact e2
 cases hk:K.lookup a with
 | some o=>
  have e:=KX a o hk
  rw[ha]at e;cases e;refine J (λ_=>none) (λ_=>.inl rfl) (.inr ⟨_,vs.toArray,_,hk,rfl,rfl,rfl,by rw[Ab2,X3];exact hl,by simpa using rv⟩) (λb u z=>by have z':(none:Option HO)=some u:=z;cases z') (λb z=>absurd rfl z) λz=>absurd rfl z
 | none=>
  refine J (λb=>if b=a then some (.frz {cls:=.type "list",data:=.seq vs.toArray} (.lst (ns.map V.int))) else none) (λb=>?_) (.inl (.inr ⟨{cls:=.type "list",data:=.seq vs.toArray},Ae rfl⟩)) (λb u z=>?_) (λb z=>?_) λ_=>hk
  .by_cases X:b=a
   .exact .inr ⟨_,_,Ae X⟩
   .exact .inl (Ac X)
  .by_cases X:b=a
   .have z':=(Ae X).symm.trans z
    cases z'
    subst X;exact⟨ha,by rw[Aa3];exact hl,vs,_,rv,ha⟩
   .have z':=(Ac X).symm.trans z
    cases z'
  .by_cases X:b=a
   .exact X
   .exact absurd (Ac X) z
abbrev KOf {K:Frag}{h:Heap}(_:K.In h):Frag:=K
theorem cX0 {l:PySem.W.OpenLaw}{n k:Nat}{q:Program}{loose:List Str}{XP:(Str->Option Value)->Heap->Prop}{YP:World->Heap->Prop}{d:DefRec}{K:Params->Frag}{CX:World->CXT}{sp:World->Sp}{x:Str}
  (hn:l.most=some n) (N:n<=sizeLine) (J:d.params.defaults=[]) (hr:Room k callerA)
  (hY:∀(w:World) (h:Heap),YP w h->(K w.params).In h)
  (F:∀(w:World) (mg:Str->Option Value) (fa:Addr) (h:Heap),(K w.params).In h->h.Ns mainGlobals mg->mg d.name=some (.ref fa) ->
   ∃fd:FuncData,(∀(s:Shared) (u:Value),BindsTo s fd ⟨[u],[]⟩ [(x,u)]) /\
    ∀base:Heap,(K w.params).In base->base.Ns mainGlobals mg->D2 l.prog w (K w.params) mg base (CX w) k fa fd [x] (sp w))
  (R:∀(w:World) (H:Hp) (a:Addr) (ns:List Int),ns.length<=n->dK7 H->SqL (K w.params) H a (ns.map V.int)->sp w [.ref a] H (λv _=>v=.bl true) λ_ _ _=>False)
  (U:∀(w:World) (H:Hp) (s:Shared) (e:Value) (s':Shared),CX w [] H s (λ_ _ _=>False) e s'->False) :
  PySem.W.WalkO q loose XP YP l.row.toRowW d [] (λf vs=>PySem.call f vs):=by
 refine Att.bM9 hn J λw s₀ s₁ mg mb fa o pm cd D a vs ns G Y ho hd hcd M X m z hg=>?_
 have Q:=hY w _ Y
 obtain⟨fd,hb,B⟩:=F w mg fa _ Q G.T.g M;exact cN1 Q G.T.g G.T.b G.T.builtins G.T.nolimit hg X m (Bi z N) hr B hb (λH P hS=>R w H a ns z P hS) λH e s'=>U w H s₁ e s'
def Y0 (s:Stmt):Arguments:=match s with
 | .FunctionDef _ a _ _ _ _ _ _ _ _=>a
 | _=>{posonlyargs:=[],args:=[],vararg:=none,kwonlyargs:=[],kw_defaults:=[],kwarg:=none,defaults:=[]}
def U7 (s:Stmt):List Stmt:=match s with
 | .FunctionDef _ _ b _ _ _ _ _ _ _=>b
 | _=>[]
def B2 (s:Stmt):Scope:=match s with
 | .FunctionDef _ _ _ _ _ _ sc _ _ _=>sc
 | _=>{kind:=.function,names:=[],isGenerator:=false,isCoroutine:=false}
abbrev CX0:CXT:=λ_ _ _ _ _ _=>False
abbrev E0:XK:=λ_ _ _=>False
theorem dT1:bS3 CX0 X E0:=λ_ _ _ _ _ _ _ h=>h.elim
structure Fun (K:Frag)(x qual:Str)(st:Stmt)(f:Addr)(fd:FuncData):Prop where
 ex:∃(oc:Value) (od:Option Addr) (kV doc pm:Value) (an:Option Addr) (cdv ct:Value) (osl:Array (Option Value)),
  fd=PySem.W.fnOf x qual (Y0 st) (U7 st) (B2 st) .none kV doc pm an cdv ct/\K.lookup f=some ⟨oc,od,.func fd,osl⟩/\PySem.W.codeIn K cdv qual=true
 kp:PySem.W.keepIn K (.ref f)=true
section
variable {P:Program}{w:World}{K:Frag}{mg:Str->Option Value}{base:Heap}
theorem Fun.ok {x qual:Str}{st:Stmt}{f:Addr}{fd:FuncData}{N ps:List Str}{k:Nat}{sp:Sp}(F:Fun K x qual st f fd)(S:C1 N ps (B2 st))(len:∀vs H Q E,sp vs H Q E->vs.length=ps.length)
  (e:∀(cdv:Value) (A:Around) (outer:List Env) (s:Shared) (H:Hp) (vs:List V) (Q:VK) (E:XK),Room k (A.deeper (envOfC qual (B2 st) s.heap.objs.size f cdv))->sp vs H Q E ->
   ∃t,PSs (bU8 CX0 P w K mg base N qual (B2 st) f cdv A outer s H E).nox (U7 st) t/\t {nx:=λ_ H'=>Q .non H',rt:=Q} (Y3 N vs) H):D2 P w K mg base CX0 (k+1) f fd ps sp:=by
 obtain⟨oc,M,kV,Y,R,an,cdv,J,U,rfl,X,z⟩:=F.ex;refine dO9 X z S len λA outer s H vs Q E hr m=>?_
 obtain⟨t,h,q⟩:=e cdv A outer s H vs Q E hr m;exact⟨t,h.nox,q⟩
theorem Fun.binds {x qual:Str}{st:Stmt}{f:Addr}{fd:FuncData}{ps:List Str}(F:Fun K x qual st f fd)
  (h:∀(kV doc pm:Value) (an:Option Addr) (cdv ct:Value) (us:List Value),us.length=ps.length->bindArgs (PySem.W.fnOf x qual (Y0 st) (U7 st) (B2 st) .none kV doc pm an cdv ct) ⟨us,[]⟩=pure (ps.zip us)):Binds K fd ps []:=by
 obtain⟨oc,m,kV,doc,pm,an,cdv,ct,z,rfl,s,e⟩:=F.ex;exact .all (h kV doc pm an cdv ct)
theorem dI5 {x qual:Str}{st:Stmt}{f:Addr}{oc:Value}{od an:Option Addr}{osl:Array (Option Value)}{kV doc pm cdv ct:Value}(l:K.lookup f=some ⟨oc,od,.func (PySem.W.fnOf x qual (Y0 st) (U7 st) (B2 st) .none kV doc pm an cdv ct),osl⟩)
  (c:PySem.W.codeIn K cdv qual=true) (k:PySem.W.keepIn K (.ref f)=true):Fun K x qual st f (PySem.W.fnOf x qual (Y0 st) (U7 st) (B2 st) .none kV doc pm an cdv ct):=⟨⟨oc,od,kV,doc,pm,an,cdv,ct,osl,rfl,l,c⟩,k⟩
end
section
variable {X:Cx}
theorem pv (i:Nat)(hN:X.N[i]? = some x:=by rfl)(z:Vis X.env.scope x:=by first | exact Or.inl rfl | exact Or.inr (Or.inl rfl) | exact Or.inr (Or.inr rfl))(w:(x==("__debug__" : Str))=false:=by decide)
  (e:(x==("__classdict__" : Str))=false:=by decide):PE X (.Name x pos) (D7 i):=dO3 hN z w e
end
def Same (H H':Hp):Prop:=∀b o,H b=some o->H' b=some o
section
variable {prog:Program}{w:World}{A:Around}{R:Result->Shared->Prop}{s:Shared}
theorem bP6 (I:Nat->Shared->Prop)
  (turn:∀n s,I n s->wpAny (model prog w) A (pyNext it) (λr s₁=>match r with
   | none=>R (.ok .next) s₁
   | some v=>wpAny (model prog w) A (letOwnedTupleGo target it v) (λ_ s₁'=>wpAny (model prog w) A (assign target env v) (λ_ s₂ =>
     wpAny (model prog w) A (forIn ifs true λc r=>if r=true then do let ok <- isTrue c env (eval c env);pure (ForInStep.yield ok) else pure (ForInStep.yield r)) (λok s₃ =>
      if ok=true then wpAny (model prog w) A (eval elt env) (λx s₄ =>
       wpAny (model prog w) A (call (.builtin "list.append") [acc,x]) (λ_ s₅=>∃m,m<n/\I m s₅) (λ_ _=>False) s₄) (λ_ _=>False) s₃
      else ∃m,m<n/\I m s₃) (λ_ _=>False) s₂) (λ_ _=>False) s₁') (λ_ _=>False) s₁) (λ_ _=>False) s)
  (n:Nat) (h:I n s) :
  codeAny (model prog w) A (.compLoop (.ListComp elt [⟨target,iter,ifs,0⟩] scope pos) 0 it acc env) R s:=by
 refine codeAny_loop rfl I (λn s hI=>?_) n h
 show wpAny _ A ((compTurn (.ListComp elt [⟨target,iter,ifs,0⟩] scope pos) 0 it acc env).onRaise (λx=>do noteFrame x env;theTreesLotGoes x)) _ _ s
 refine wpAny_noted ?_;rw[compTurn_list];refine Aa (wpAny_standAt (Aa (wpAny_mono (turn n s hI) (λr s₁ Y=>?_) λ_ _ e=>e.elim)))
 cases r with
 | none=>exact Ab Y
 | some v=>
  refine Aa (wpAny_mono Y (λ_ s₁' z=>?_) λ_ _ e=>e.elim)
  refine Aa (wpAny_mono z (λ_ s₂ U=>Aa (wpAny_mono U (λok s₃ X=>?_) λ_ _ e=>e.elim)) λ_ _ e=>e.elim)
  cases ok with
  | false=>exact Ab ⟨rfl,X⟩
  | true=>
   exact Aa (Aa (wpAny_mono X (λx s₄ J=>Aa (wpAny_mono J (λ_ s₅ M=>Ab (Ab ⟨rfl,M⟩)) λ_ _ e=>e.elim)) λ_ _ e=>e.elim))
end
section
variable {X:Cx}
def cxC (X:Cx)(N':List Str)(scope:Scope)(cl:List (Str×Addr))(C:Addr)(ex:List Addr)(s:Shared)(H:Hp):Cx:=
 {X with N:=N',s₀:=s,H₀:=H,env:=compEnvC scope cl C X.env,outer:=X.stack,ex:=ex,fn:=λ_=>false,xe:=λ_ _=>False}
structure PIfs (X:Cx)(ifs:List Expr)(t:TT):Prop where
 mk ::
 run :
  ∀(aA:Eg) (s:Shared) (σ:St) (H:Hp) (Q:Bool->Hp->Prop),Inv X aA σ H s->t σ H Q ->
   wpAny (model X.prog X.w) X.A (forIn ifs true λc r=>if r=true then do let ok <- isTrue c X.env (eval c X.env);pure (ForInStep.yield ok) else pure (ForInStep.yield r)) (TP X aA σ Q) X.xe s
instance {X:Cx} {ifs:List Expr} {t:TT}:CoeFun (PIfs X ifs t) λ_=>
 (∀(aA:Eg) (s:Shared) (σ:St) (H:Hp) (Q:Bool->Hp->Prop),Inv X aA σ H s->t σ H Q ->
  wpAny (model X.prog X.w) X.A (forIn ifs true λc r=>if r=true then do let ok <- isTrue c X.env (eval c X.env);pure (ForInStep.yield ok) else pure (ForInStep.yield r)) (TP X aA σ Q) X.xe s):=⟨PIfs.run⟩
def aN0:TT:=λ_ H Q=>Q true H
theorem N3:PIfs X [] aN0:=⟨λe s σ H Q I h=>by
 show wpAny _ _ (pure true) _ _ _
 exact Ab ⟨H,I,h⟩⟩
theorem aK3 (w:PT X c t):PIfs X [c] t:=⟨λe s σ H Q I h=>by
 rw[List.forIn_cons,Ae rfl];refine Aa (Aa (thn (w e s σ H Q I h) λb z q=>Ab ?_))
 dsimp only
 rw[List.forIn_nil];exact Ab q⟩
def stC (n:Nat)(is:List Nat)(σ:St):St:=List.replicate n none++is.map λi=>(σ[i]?).getD none
def bN5 (wi:TI)(n:Nat)(is:List Nat)(g:TG)(tt:TT)(te:TE):TE:=λσ H Q=>wi σ H λJ H1=>
 ∃W:Nat->Nat->List V->Hp->Prop,(∃m,W 0 m [] H1)/\∀i m ys H,W i m ys H->ys.length<sizeLine /\
  ((J.stop i H/\∀D,H D=none->Q (.ref D) (upd H D (.lst ys))) \/
   (J.go i H/\∀x H',J.yld i H x H'->g x (stC n is σ) H' λσ2 H2=>tt σ2 H2 λb H3=>
    if b=true then te σ2 H3 (λy H4=>∃m',m'<m/\W (i+1) m' (ys++[y]) H4) else ∃m',m'<m/\W (i+1) m' ys H3))
structure CScope (X:Cx)(scope:Scope)(cl:List (Str×Addr))(T:List Str)(is:List Nat)(N':List Str):Prop where
 clos:closureFor scope X.env=pure cl
 cell:∀y∈scope.names,y.2≠.cell
 kind:scope.kind=.function
 names:∀y∈scope.names,y.2=.local->scope.names.lookup y.1=some .local
 cap:∀x c,cl.lookup x=some c->X.env.cells.lookup x=some c
 has:∀x,((relabel scope X.env).names.lookup x=some .cell\/(relabel scope X.env).names.lookup x=some .free)->∃c,cl.lookup x=some c
 N:N'=T++is.map λ(i:Nat)=>((X.N[i]?).getD Str.empty:Str)
 lt:∀i∈is,i<X.N.length
 capt:∀i∈is,∀x,X.N[i]? = some x->((relabel scope X.env).names.lookup x=some .cell\/(relabel scope X.env).names.lookup x=some .free)/\(X.env.kindOf x=some .cell\/X.env.kindOf x=some .free)
theorem dI3 (S:CScope X scope cl T is N')(I:Inv X aA σ H s)
  (m:∀b∈fp,aX2 X aA H b) (Y:∀b∈fp,b<s.heap.objs.size) (U:s.heap.objs.size<=C):(cxC X N' scope cl C fp s H).Ok where
 mod:=I.ok.mod
 kind:=S.kind
 glob:=I.ok.glob
 blt:=I.ok.blt
 above:=U
 inj:=λx y c h1 J=>I.ok.inj x y c (S.cap x c h1) (S.cap y c J)
 has:=S.has
 cab:=λx c h=>by cases h
 hd:=I.ok.hd
 frames:=I.ok.frames
 stk:=.inl rfl
 exf:=λb w=>⟨Ab9 (Ab8 (Y b w) U),λx c e=>(m b w).2.2.2.2.1 x c (S.cap x c e)⟩
 bs:=λb o e=>I.bs b o e
 bsz:=Bi I.ok.bsz I.sz
 noex:=λb o e w=>by
  rcases (m b w).2.2.2.1 with z | z
  .exact I.ok.noex b o e z
  .exact absurd (Ab8 (Ab3 e) (Bi I.ok.bsz z)) (Ad9 _)
 exfs:=λb w z=>(Aa1.mp (I.stkSub b z)).elim (m b w).2.1 (m b w).2.2.1
 funs:=I.stack
 frf:=I.stkFree
def aW6 (n:Nat)(g:TG):Prop:=∀v (σ:St) H Q,n<=σ.length->g v σ H Q->g v σ H λσ' H'=>Q σ' H'/\σ'.length=σ.length/\∀i,n<=i->σ'[i]? = σ[i]?
def bG4 (n:Nat)(g:TGs):Prop:=∀vs (σ:St) H Q,n<=σ.length->g vs σ H Q->g vs σ H λσ' H'=>Q σ' H'/\σ'.length=σ.length/\∀i,n<=i->σ'[i]? = σ[i]?
theorem L5 (h:i<n):aW6 n (G7 i):=λv σ H Q w q=>
 ⟨q,Eb,λj e=>Ad0 (by lia)⟩
theorem dN4:bG4 n bS0:=λvs σ H Q e q=>⟨q.1,q.2,rfl,λ_ _=>rfl⟩
theorem cD4 (mono:∀v σ H Q Q',(∀σ' H',Q σ' H'->Q' σ' H')->t v σ H Q->t v σ H Q')(w:∀v σ H Q Q',(∀σ' H',Q σ' H'->Q' σ' H')->u v σ H Q->u v σ H Q')(h1:aW6 n t)(Y:bG4 n u):bG4 n (aH4 t u):=by
 rintro vs σ H Q U ⟨v,r,e,q⟩;refine⟨v,r,e,mono _ _ _ _ _ ?_ (h1 v σ H _ U q)⟩;rintro σ' H' ⟨N,D,J⟩;refine w _ _ _ _ _ ?_ (Y r σ' H' _ (by lia) N)
 rintro R m ⟨s,M,z⟩;exact⟨s,by lia,λi hi=>(z i hi).trans (J i hi)⟩
theorem dH4 {K:Frag}{n k:Nat}{t:TGs}(h:bG4 n t):aW6 n (cL9 K k t):=by
 rintro v σ H Q w ⟨a,xs,e,s,z,q⟩;exact⟨a,xs,e,s,z,h xs σ H Q w q⟩
abbrev aE4 (its:List Value)(n:Nat):Obj:={cls:=.type "list",data:=.seq its.toArray n}
theorem cP2 (S:CScope X scope cl T is N')(I:Inv X aA σ H s)
  (hf:∀b∈fp,aX2 X aA H b) (hfl:∀b∈fp,b<s.heap.objs.size) (F:s.heap.objs.size=D) (hC:D<C) (hns:h₁.Ns C m) (Y:∀b o,s.heap.get? b=some o->h₁.get? b=some o) (R:h₁.get? D=some (aE4 its e)) :
  Inv (cxC X N' scope cl C fp s H) (aA++[(D,aE4 its e)]) (stC T.length is σ) H {s with heap:=h₁,toks:=tk}:=by
 have M:s.heap.objs.size<=C:=by rw[F];exact Cq hC
 have ok:=dI3 (C:=C) S I hf hfl M
 have lt:∀p∈X.pn++aA,p.1<D:=λp hp=>by rw[<- F];exact Ab3 (I.pin p hp).1
 have stk:∀b∈frs X.stack,b<D:=λb hb=>by
  obtain⟨_,o,ho,_⟩:=I.stack.mem hb;rw[<- F];exact Ab3 ho
 refine⟨ok,rfl,I.bare,Un.kept Y,⟨m,hns,λi x v U w e3=>?_⟩,λx c h=>?_,?_,λx c h=>I.freeC x c (S.cap x c h),λp hp=>?_,I.hok.kept Y,?_⟩
 .have U:N'[i]? = some x:=U
  unfold stC at w;by_cases hi:i<T.length
  .rw[Bl (by simpa using hi),Dg,Ae hi]at w
   cases w
  .rw[Bp (by simpa using hi),Ds,Aa9]at w
   rw[S.N,Bp (by lia),Aa9]at U
   cases P:is[i-T.length]? with
   | none=>rw[P]at w;cases w
   | some k=>
    rw[P]at U w;have hk:k∈is:=Aw P;have hlt:=S.lt k hk;have eN:X.N[k]? = some x:=by
     simp only[Option.map_some,Option.some.injEq]at U;rw[Aa2 hlt]at U ⊢;simpa using U
    have es:σ[k]? = some (some v):=by
     simp only[Option.map_some,Option.some.injEq]at w;cases q:σ[k]? with
     | none=>rw[q]at w;cases w
     | some y=>rw[q]at w;exact congrArg some w
    obtain⟨c1,c2⟩:=S.capt k hk x eN;obtain⟨m',hn',hl'⟩:=I.loc;obtain⟨u,r,l⟩:=hl' k x v eN es (.inr c2);refine⟨u,r,.inr ⟨c1,?_⟩⟩;rcases l with⟨k1,_⟩ | ⟨_,c,hc,J⟩
    .rcases c2 with c2 | c2 <;> rw[k1]at c2 <;> cases c2
    .obtain⟨B,Q⟩:=S.has x c1
     have:B=c:=Ab4 ((S.cap x B Q).symm.trans hc)
     subst this;exact⟨B,Q,J.keeps Y⟩
 .obtain⟨v,q⟩:=I.cell x c (S.cap x c h);exact⟨v,q.keeps Y⟩
 .exact I.hok.fresh M
 .have hp:p∈X.pn++(aA++[(D,aE4 its e)]):=hp
  rw[<- Ad7]at hp;rcases Aa0.mp hp with hp | hp
  .obtain⟨q1,q2,q3,q4,q5⟩:=I.pin p hp
   have:=lt p hp
   exact⟨Y _ _ q1,q2,Ab9 (Nat.lt_trans this hC),λz=>(Aa1.mp (I.stkSub p.1 z)).elim q3 q4,q5⟩
  .have e:p=(D,aE4 its e):=by simpa using hp
   subst e;exact⟨R,I.hok.fresh (by rw[F];exact Aa7 _),Ab9 hC,λz=>Ad9 _ (stk D z),λv z=>by cases z⟩
 .show(stC T.length is σ).length=N'.length
  rw[S.N];unfold stC
  simp
def dA9 (X:Cx)(aA:Eg)(σ:St)(D C:Addr)(H4:Hp)(s4:Shared):Prop:=
 (∃m,s4.heap.Ns C m)/\(∀h',Heap.SameBut C s4.heap h'->Inv X aA σ H4 {s4 with heap:=h'})/\H4 C=none/\C≠X.env.locals/\X.s₀.heap.objs.size<=C/\(∀x c,X.env.cells.lookup x=some c->c≠C)/\∀p∈X.pn++aA,p.1≠C
theorem bA3 (hc:X.calm=true)(S:CScope X scope cl T is N')(hi:PI X tg iter wi)(hg:aW6 T.length g)
  (m:∀C ex s H,PG (cxC X N' scope cl C ex s H) tg g/\PIfs (cxC X N' scope cl C ex s H) ifs tt/\PE (cxC X N' scope cl C ex s H) elt te)
  (hs:∀x,foldedSetIterable iter X.env x=pure x) (I:Inv X aA σ H s) (h:bN5 wi T.length is g tt te σ H Q)
  (fin:∀(D C:Addr) (H4:Hp) (s4:Shared),dA9 X aA σ D C H4 s4->Q (.ref D) H4->compPost (model X.prog X.w) X.A X.xe use Qc (.ref D) C (.ok .next) s4) :
  wpAny (model X.prog X.w) X.A (comprehension (.ListComp elt [⟨tg,iter,ifs,0⟩] scope pos) scope X.env pos2 (newList []) false (eval iter X.env) use) Qc X.xe s:=by
 refine wpAny_comprehension_free (use:=use) rfl hs S.clos S.kind S.names (thn (hi aA s σ H _ I h) λv s1 h1=>thn h1 λitv U h2=>?_)
 obtain⟨it,Y,tn,J,N,e,I2,Tn,st2,f2,W,⟨m0,w0⟩,turn⟩:=h2;subst e;refine Be (wpAny_newFunctionEnv S.cell (by intro y hy;simp at hy) (λh₁ P R=>?_) S.kind)
 dsimp only at P R ⊢
 generalize hH2:U.heap.push {cls:=.type "list",dict:=none,data:=.seq ([]:List Value).toArray}=G2 at P R ⊢;have eC:G2.objs.size=U.heap.objs.size+1:=by rw[<- hH2,Ce]
 generalize hC:G2.objs.size=C at *;generalize hD:U.heap.objs.size=D at *;have M:D<C:=by rw[eC];exact Nat.lt_succ_self D
 have bC:∀{b:Addr},b<D->b≠C:=λm=>Ab9 (Nat.lt_trans m M)
 have below:∀b o,U.heap.get? b=some o->b<D:=λb o e=>by rw[<- hD];exact Ab3 e
 have old:∀b o,U.heap.get? b=some o->h₁.get? b=some o:=λb o e=>R.extBut b o (bC (below b o e)) (Aa6 _ (hH2▸Aa6 _ e))
 have hacc:h₁.get? D=some (aE4 [] 0):=R.extBut _ _ (Ab9 M) (Aa6 _ (hH2▸(by rw[<- hD];exact Ac3 _ rfl)))
 have B:∀b∈Y,b<D:=λb m=>by
  obtain⟨o,e,_⟩:=Tn.obj _ _ st2 b m;exact below b o e
 have lt:∀p∈X.pn++aA,p.1<D:=λp hp=>below _ _ (I2.pin p hp).1
 have stk:∀b∈frs X.stack,b<D:=λb m=>by
  obtain⟨_,o,ho,_⟩:=I2.stack.mem m;exact below b o ho
 have cel:∀x c,cl.lookup x=some c->c<D:=λx c hx=>by
  obtain⟨v,q⟩:=I2.cell x c (S.cap x c hx);rw[<- hD];exact q.lt
 have H2D:N D=none:=I2.hok.fresh (by rw[hD];exact Aa7 _)
 obtain⟨pgx,pix,pex⟩:=m C Y U N;have stat:∀{e:Nat} {its:List Value} {H':Hp},(∀b∈Y,H' b=none)->∀b∈Y,aX2 (cxC X N' scope cl C Y U N) (aA++[(D,aE4 its e)]) H' b:=λ{e its H'} hn b m=>by
  obtain⟨f0,f1,f3,f4,f5,f6⟩:=f2 b m
  have:=B b m
  refine⟨hn b m,bC (B b m),λz=>(Aa1.mp (I2.stkSub b z)).elim f1 f3,.inl m,λx c z=>f5 x c (S.cap x c z),λp hp=>?_⟩
  have hp:p∈X.pn++(aA++[(D,aE4 its e)]):=hp
  rw[<- Ad7]at hp;rcases Aa0.mp hp with hp | hp
  .exact f6 p hp
  .have e:p=(D,aE4 its e):=by simpa using hp
   subst e;exact(Ab9 (B b m)).symm
 have loop:codeAny (model X.prog X.w) X.A (.compLoop (.ListComp elt [⟨tg,iter,ifs,0⟩] scope pos) 0 (.ref it) (.ref D) (compEnvC scope cl C X.env)) (compPost (model X.prog X.w) X.A X.xe use Qc (.ref D) C) {U with heap:=h₁,toks:=U.toks+([]:List (Str×Value)).length}:=by
  refine bP6 (λn s'=>∃i ys its e F,Inv (cxC X N' scope cl C Y U N) (aA++[(D,aE4 its e)]) (stC T.length is σ) F s'/\tn i s'.heap/\(∀b∈Y,F b=none)/\Vals ys its/\W i n ys F) ?_ m0
   ⟨0,[],[],0,N,cP2 S I2 f2 (by rw[hD];exact B) hD M P old hacc,Tn.keep _ _ _ st2 λb _ o q=>old b o q,λb m=>(f2 b m).1,.nil,w0⟩
  rintro n s3 ⟨i,ys,its,e,F,I3,st3,fr3,rv,w3⟩;obtain⟨hsz,hh⟩:=turn i n ys F w3;rcases hh with⟨stop,qn⟩ | ⟨go,step⟩
  .refine thn (Tn.done (cxC X N' scope cl C Y U N) rfl rfl rfl hc i _ s3 _ F _ I3 (stat fr3) st3 stop) λr s4 ⟨hr,I4⟩=>?_
   subst hr;obtain⟨m4,hn4,_⟩:=I4.loc;obtain⟨pd,H3D,_⟩:=I4.pin (D,aE4 its e) (by simp)
   have H3C:F C=none:=I4.free
   refine fin D C (upd F D (.lst ys)) s4 ⟨⟨m4,hn4⟩,λh' sb=>?_,by rw[B0 (Nat.ne_of_gt M)];exact H3C,λz=>Ad9 _ (Nat.lt_trans M (by rw[z];have:=I2.lt;rw[hD]at this;exact this)),Bi I2.sz (by rw[hD];exact Cq M),λx c e=>by
    obtain⟨v,q⟩:=I2.cell x c e;exact bC (by rw[<- hD];exact q.lt),λp hp=>bC (lt p hp)⟩ (qn D H3D)
   have kC:∀b o,b≠C->s4.heap.get? b=some o->h'.get? b=some o:=λb o m q=>(sb.2 b m).trans q
   have u:=I4.base
   have u:Un (frs X.stack) Y N F U.heap s4.heap:=u
   have u2:Un (frs X.stack) Y N (upd F D (.lst ys)) U.heap h':=by
    refine⟨λb o q n m hx=>kC b o (bC (below b o q)) (u.keep b o q n m hx),λb o q n m hx=>?_,λb o q n hx=>?_,λb o q hx=>?_,λb xs q=>?_,λb o xs q=>?_,λb ps q=>?_⟩
    .obtain⟨sl,q1⟩:=u.slot b o q n m hx;exact⟨sl,kC b _ (bC (below b o q)) q1⟩
    .rw[B0 (Ab9 (below b o q))];exact u.free b o q n hx
    .obtain⟨o',q1⟩:=u.there b o q hx;exact⟨o',kC b _ (bC (below b o q)) q1⟩
    .rw[B0 (E2 q H2D)];exact u.tups b xs q
    .rw[B0 (E2 q H2D)];exact u.frzs b o xs q
    .obtain⟨more,q1⟩:=u.tbls b ps q;exact⟨more,by rw[B0 (E2 q H2D)];exact q1⟩
   have hok:HOk X.prog X.w (upd F D (.lst ys)) h':=λb o q=>by
    by_cases m:b=D
    .subst m;rw[B3]at q;cases q;exact⟨Cq hsz,its,e,rv,kC _ _ (Ab9 M) pd⟩
    .rw[B0 m]at q;refine(I4.hok b o q).stay (λc v hc q'=>kC c v ?_ q') (λc q'=>by rw[B0 (E2 q' H3D)];exact q') λc xs q'=>by rw[B0 (E2 q' H3D)];exact q'
     rcases hc with z | z
     .rw[z];exact E2 q H3C
     .exact E2 z H3C
   have os4:s4.os=U.os:=I4.os
   exact I2.call' (s':={s4 with heap:=h'}) os4 u2 hok I4.bare λb m=>⟨(f2 b m).2.2.2.1,(f2 b m).2.1,(f2 b m).2.2.2.2.1,(f2 b m).2.2.2.2.2⟩
  .refine thn (Tn.item (cxC X N' scope cl C Y U N) rfl rfl rfl hc i _ s3 _ F _ I3 (stat fr3) st3 go) λr s4 ⟨u,hr,h4⟩=>?_
   subst hr;refine thn h4 λ_ s5 ⟨x,H5,I5,r5,y5,st5,fr5⟩=>?_
   have I5':=I5.pinned (stat fr5) (Tn.obj _ _ st5)
   have hln:T.length<=(stC T.length is σ).length:=by unfold stC;simp
   refine thn (pgx _ s5 _ H5 x u _ I5' r5 (hg x _ H5 _ hln (step x H5 y5))) λ_ s6 ⟨σ6,H6,I6,q6,l6,k6⟩=>?_
   refine thn (pix _ s6 σ6 H6 _ I6 q6) λb s7 ⟨H7,I7,q7⟩=>?_
   have back:∀{H8:Hp} {s8:Shared} {its':List Value} {e':Nat},Inv (cxC X N' scope cl C Y U N) (aA++[(D,aE4 its' e')]++i9 Y s5.heap) σ6 H8 s8->Inv (cxC X N' scope cl C Y U N) (aA++[(D,aE4 its' e')]) (stC T.length is σ) H8 s8/\tn (i+1) s8.heap/\∀b∈Y,H8 b=none:=λ{H8 s8 its' e'} I8=>by
    refine⟨I8.unpinned.weak l6.symm λj v q=>?_,Tn.keep _ _ _ st5 λb m o q=>(I8.pin (b,o) (Ac1 _ (Ac1 _ (k9 m q)))).1,λb m=>?_⟩
    .by_cases hj:T.length<=j
     .rw[k6 j hj];exact q
     .unfold stC at q;rw[Bl (by simpa using hj),Dg,Ae (by lia)]at q
      cases q
    .obtain⟨o,q,d⟩:=Tn.obj _ _ st5 b m;exact(I8.pin (b,o) (Ac1 _ (Ac1 _ (k9 m q)))).2.1
   cases b with
   | false=>
    rw[Ac Ai]at q7 ⊢;obtain⟨m',hm,w7⟩:=q7;obtain⟨J1,J2,J3⟩:=back I7;exact⟨m',hm,i+1,ys,its,e,H7,J1,J2,J3,rv,w7⟩
   | true=>
    rw[Ae rfl]at q7 ⊢;refine thn (pex _ s7 σ6 H7 _ I7 q7) λy s8 ⟨yv,H8,I8,r8,m',hm,w8⟩=>?_
    obtain⟨pd,H8D,_⟩:=I8.pin (D,aE4 its e) (by simp)
    have pl:s8.heap.PlainList D its.toArray:=⟨e,pd⟩
    refine wpAny_list_append_plain pl (λh9 pl9 sb9=>?_) (by have:=rv.length;simp;lia)
    obtain⟨e9,hl9⟩:=pl9;have ea:its.toArray.push y=(its++[y]).toArray:=by simp
    rw[ea]at hl9;have I8':Inv (cxC X N' scope cl C Y U N) (aA++i9 Y s5.heap) σ6 H8 s8:=I8.pins_of λp hp=>I8.pin p (Ac1 _ ((Aa0.mp hp).elim (λz=>Al _ (Al _ z)) λz=>Ac1 _ z))
    have I9:Inv (cxC X N' scope cl C Y U N) (aA++i9 Y s5.heap) σ6 H8 {s8 with heap:=h9}:=by
     refine I8'.turned (t':=s8.toks) (it:=D) (λb o m q=>(sb9.2 b m).trans q) H8D (Ab9 M) (.inr (by show U.heap.objs.size<=D;rw[hD];exact Aa7 _)) (λx c z=>Ab9 (cel x c z)) λp hp=>?_
     have hp:p∈X.pn++(aA++i9 Y s5.heap):=hp
     rw[<- Ad7]at hp;rcases Aa0.mp hp with z | z
     .exact Ab9 (lt p z)
     .exact Ab9 (B _ (aZ8 z).1)
    have I9':Inv (cxC X N' scope cl C Y U N) (aA++[(D,aE4 (its++[y]) e9)]++i9 Y s5.heap) σ6 H8 {s8 with heap:=h9}:=I9.pins_of λp hp=>by
     rcases Aa0.mp hp with z | z
     .rcases Aa0.mp z with z | z
      .exact I9.pin p (Ac1 _ (Al _ z))
      .have ep:p=(D,aE4 (its++[y]) e9):=by simpa using z
       subst ep;exact⟨hl9,H8D,Ab9 M,λz=>Ad9 _ (stk D z),λv z=>by cases z⟩
     .exact I9.pin p (Ac1 _ (Ac1 _ z))
    obtain⟨J1,J2,J3⟩:=back I9';exact⟨m',hm,i+1,ys++[yv],its++[y],e9,H8,J1,J2,J3,rv.append (.cons r8 .nil),w8⟩
 refine codeAny_compStart_list loop ?_;exact Tn.self _ 0 _ _ _ (Tn.keep _ _ _ st2 λb _ o q=>old b o q) loop
theorem M3 (Y:X.calm=true)(S:CScope X scope cl T is N')(hi:PI X tg iter wi)(U:aW6 T.length g)
  (m:∀C ex s H,PG (cxC X N' scope cl C ex s H) tg g/\PIfs (cxC X N' scope cl C ex s H) ifs tt/\PE (cxC X N' scope cl C ex s H) elt te)
  (M:∀x,foldedSetIterable iter X.env x=pure x:=by intro _;rfl):PE X (.ListComp elt [⟨tg,iter,ifs,0⟩] scope pos) (bN5 wi T.length is g tt te):=by
 refine⟨?_⟩;intro F s σ H Q I h;rw[eval_ListComp];refine bA3 Y S hi U m M I h λD C w B ⟨⟨N,e⟩,J,_⟩ q=>?_
 exact⟨N,e,λz R=>⟨.ref D,w,J z R,rfl,q⟩⟩
theorem bU1 (hN:X.N.Nodup)(hx:X.N[i]? = some x)(Q:X.env.scope.names.lookup x=some .local)
  (hc:X.calm=true) (S:CScope X scope cl T is N') (hi:PI X tg iter wi) (hg:aW6 T.length g)
  (w:∀C ex s H,PG (cxC X N' scope cl C ex s H) tg g/\PIfs (cxC X N' scope cl C ex s H) ifs tt/\PE (cxC X N' scope cl C ex s H) elt te)
  (m:swapsWith (.ListComp elt [⟨tg,iter,ifs,0⟩] scope pos) (some (.Name x pos')) spos.line X.env=pure true:=by rfl)
  (hs:∀x,foldedSetIterable iter X.env x=pure x:=by intro _;rfl):PS X (.Assign [.Name x pos'] (.ListComp elt [⟨tg,iter,ifs,0⟩] scope pos) spos) (aL7 (bN5 wi T.length is g tt te) (G7 i)):=by
 refine⟨?_⟩;intro R s σ H D I h;rw[exec_Assign_Name_used _ _ _ _ m];refine Aa (wpAny_standAt (Aa ?_));show wpAny _ X.A (do let _ <- comprehension (.ListComp elt [⟨tg,iter,ifs,0⟩] scope pos) scope X.env _ (newList []) false (eval iter X.env) (some (assign (.Name x pos') X.env))) _ _ s;refine Aa (wpAny_mono (bA3 (use:=some (assign (.Name x pos') X.env)) (Qc:=λ_ P=>SP X R D .next P) hc S hi hg w hs I h λU C M s4 ⟨⟨m4,z⟩,J,k1,F,k3,B,k5⟩ q=>?_) (λ_ P hq=>Ab (Ab hq)) λ_ _ e=>e)
 show wpAny _ _ (assign (.Name x pos') X.env (.ref U)) _ _ _
 have I4:Inv X R σ M s4:=J s4.heap (.refl _ _)
 refine wpAny_assign_Name (bC5 I4 hN hx (.inl Q) (v:=.ref U) rfl (λs5 I5 ⟨a,sb,ha⟩=>?_) (.inr Q))
 have aC:a≠C:=by
  rcases ha with rfl | ha
  .exact F.symm
  .exact B x a ha
 refine⟨m4,z.sameBut sb aC.symm,λh' Y=>⟨_,M,?_,q⟩⟩
 exact I5.turned (t':=s5.toks) (λb o w e=>(Y.2 b w).trans e) k1 F (.inr k3) B k5
end
end L2
namespace LV
open PySem L2
def _root_.L2.excO (x C:Addr):HO:=.ext λh=>∃o vs,h.get? x=some o/\o.cls=.ref C/\o.data=.fields vs
def _root_.L2.dEnt (x:List Int×Addr×Value):DictEntry:=⟨reduceHash (Builtin.Tuple.tupleHashOf (x.1.map hashInt)),.ref x.2.1,x.2.2⟩
def _root_.L2.dicO (a:Addr)(kv:List (List Int×Addr×V)):HO:=.ext λh=>∃xs:List (List Int×Addr×Value),Paired (λp q=>p.1=q.1/\p.2.1=q.2.1/\RelV p.2.2 q.2.2) kv xs /\
 kv.length<=sizeLine/\(a==sysModules)=false/\∃o es ep,h.get? a=some o/\o.ExactDict/\o.data=.dict es ep/\es.toList=xs.map L2.dEnt/\(xs.map (·.1)).Nodup
inductive HM where
 | l (xs:List V) | x (a:Addr) (kv:List (List Int×Addr×V))
def HM.ho:HM->HO
 | .l xs=>.lst xs
 | .x a kv=>L2.dicO a kv
theorem HM.nt {u:HM}{xs:List V}(h:u.ho=.tup xs):False:=by cases u <;> cases h
theorem HM.nf {u:HM}{o:Obj}{v:HO}(h:u.ho=.frz o v):False:=by cases u <;> cases h
theorem HM.nx {u:HM}{x C:Addr}(h:u.ho=L2.excO x C):False:=by
 cases u with
 | l xs=>cases h
 | x a kv=>
  have e:=HO.ext.inj h
  have s:=congrFun e ⟨Array.replicate (x+1) {cls:=.ref C,data:=.fields #[]},{}⟩
  have g:∀b o,(Heap.get? ⟨Array.replicate (x+1) {cls:=.ref C,data:=.fields #[]},{}⟩ b)=some o->o={cls:=.ref C,data:=.fields #[]}:=λb o q=>by
   unfold Heap.get? at q;dsimp only at q;rw[Array.getElem?_replicate]at q;by_cases z:b<x+1
   .rw[Ae z]at q;exact(Ab4 q).symm
   .rw[Ac z]at q;cases q
  have y:=s.mpr ⟨{cls:=.ref C,data:=.fields #[]},#[],by unfold Heap.get?;dsimp only;rw[Array.getElem?_replicate,Ae (by lia)],rfl,rfl⟩
  obtain⟨_,_,_,_,o,Y,m,h1,_,w,_⟩:=y;rw[g a o h1]at w;cases w
def aK8:PyData->Bool
 | .none | .bool _ | .int _ | .str _=>true
 | .tuple ds=>ds.all λd=>match d with | .int _=>true | _=>false
 | _=>false
def bF2 (K:Frag)(H:Hp)(v:V):PyData->Prop
 | .none=>v=.non
 | .bool b=>v=.bl b
 | .int i=>v=.int i
 | .str x=>v=.str x
 | .tuple ds=>∃(a:Addr) (l:List Int),v=.ref a/\ds=l.map PyData.int/\SqT K H a (l.map V.int)
 | _=>False
def J8 (kvs:List (List Int×PyData)):List (PyData×PyData):=kvs.map λx=>(PyData.tuple (x.1.map PyData.int),x.2)
def dD (kvs:List (List Int×PyData)):PyData:=if kvs.all (λx=>aK8 x.2) then .dict (J8 kvs) else .dict [(.none,.none)]
def KvF (K:Frag)(H:Hp):List (List Int×Addr×V)->List (List Int×PyData)->Prop:=Paired λx y=>x.1=y.1/\SqT K H x.2.1 (x.1.map V.int)/\bF2 K H x.2.2 y.2
mutual
inductive Rep (K:Frag)(H:Hp):V->PyData->Prop
 | non:Rep K H .non .none
 | bl (b:Bool):Rep K H (.bl b) (.bool b)
 | int (i:Int):Rep K H (.int i) (.int i)
 | str (x:Str):Rep K H (.str x) (.str x)
 | tup {a:Addr} {xs:List V} {ds:List PyData}:SqT K H a xs->Reps K H xs ds->Rep K H (.ref a) (.tuple ds)
 | lst {a:Addr} {xs:List V} {ds:List PyData}:SqL K H a xs->Reps K H xs ds->Rep K H (.ref a) (.list ds)
 | exc {a C:Addr}:H a=some (L2.excO a C)->Rep K H (.ref a) (.dict [(.int (C:Nat),.none)])
 | ptr {a:Addr}:Rep K H (.ref a) (.dict [(.none,.none)])
 | adr {a:Addr}:Rep K H (.ref a) (.dict [(.int (a:Nat),.none),(.none,.none)])
 | dic {a:Addr} {kv:List (List Int×Addr×V)} {kvs:List (List Int×PyData)} {ds:List (PyData×PyData)}:Rd H a (L2.dicO a kv)->KvF K H kv kvs->ds=J8 kvs->Rep K H (.ref a) (.dict ds)
inductive Reps (K:Frag)(H:Hp):List V->List PyData->Prop
 | nil:Reps K H [] []
 | cons {v:V} {d:PyData} {vs:List V} {ds:List PyData}:Rep K H v d->Reps K H vs ds->Reps K H (v::vs) (d::ds)
end
section
variable {K:Frag}{H H':Hp}
theorem _root_.L2.Same.rf (H:Hp):Same H H:=λ_ _ e=>e
theorem _root_.L2.Same.tr {H1 H2 H3:Hp}(a:Same H1 H2)(b:Same H2 H3):Same H1 H3:=λx o e=>b x o (a x o e)
theorem O7 (h:Same H H')(r:Rd H a u):Rd H' a u:=by
 rcases r with e | ⟨o,e⟩
 .exact .inl (h _ _ e)
 .exact .inr ⟨o,h _ _ e⟩
theorem D3 (h:Same H H')(r:SqT K H a xs):SqT K H' a xs:=r.imp (O7 h) id
theorem O5 (h:Same H H')(r:SqL K H a xs):SqL K H' a xs:=r.imp (O7 h) id
theorem cF4 (h:Same H H'):∀{d:PyData},bF2 K H v d->bF2 K H' v d
 | .none,r | .bool _,r | .int _,r | .str _,r=>r
 | .tuple _,⟨a,l,e,w,s⟩=>⟨a,l,e,w,D3 h s⟩
 | .list _,r | .dict _,r=>r
theorem aS4 (h:Same H H')(r:KvF K H kv kvs):KvF K H' kv kvs:=by
 unfold KvF at *;induction r with
 | nil=>exact .nil
 | cons a _ e=>exact .cons ⟨a.1,D3 h a.2.1,cF4 h a.2.2⟩ e
mutual
theorem aV8 (h:Same H H'):∀(d:PyData) {v:V},Rep K H v d->Rep K H' v d
 | .none,_,r=>by cases r;exact .non
 | .bool _,_,r=>by cases r;exact .bl _
 | .int _,_,r=>by cases r;exact .int _
 | .str _,_,r=>by cases r;exact .str _
 | .tuple ds,_,r=>by cases r with | tup s rs=>exact .tup (D3 h s) (aB1 h ds rs)
 | .list ds,_,r=>by cases r with | lst s rs=>exact .lst (O5 h s) (aB1 h ds rs)
 | .dict _,_,r=>by cases r with | exc e=>exact .exc (h _ _ e) | ptr=>exact .ptr | adr=>exact .adr | dic e r z=>exact .dic (O7 h e) (aS4 h r) z
theorem aB1 (h:Same H H'):∀(ds:List PyData) {vs:List V},Reps K H vs ds->Reps K H' vs ds
 | [],_,r=>by cases r;exact .nil
 | d::ds,_,r=>by cases r with | cons a b=>exact .cons (aV8 h d a) (aB1 h ds b)
end
theorem Rep.mono (r:Rep K H v d)(h:Same H H'):Rep K H' v d:=aV8 h d r
theorem Reps.mono (r:Reps K H vs ds)(h:Same H H'):Reps K H' vs ds:=aB1 h ds r
mutual
def imm:PyData->Bool
 | .none | .bool _ | .int _ | .str _=>true
 | .tuple ds=>G5 ds
 | .list _ | .dict _=>false
def G5:List PyData->Bool
 | []=>true
 | d::ds=>imm d&&G5 ds
end
mutual
theorem bD7 (h:∀a xs,Rd H a (.tup xs)->Rd H' a (.tup xs)):∀(d:PyData) {v:V},imm d=true->Rep K H v d->Rep K H' v d
 | .none,_,_,r=>by cases r;exact .non
 | .bool _,_,_,r=>by cases r;exact .bl _
 | .int _,_,_,r=>by cases r;exact .int _
 | .str _,_,_,r=>by cases r;exact .str _
 | .tuple ds,_,i,r=>by
  cases r with
  | tup s rs=>exact .tup (s.imp (h _ _) id) (aJ5 h ds (by simpa[imm]using i) rs)
 | .list ds,_,i,r=>by simp[imm]at i
 | .dict _,_,i,r=>by simp[imm]at i
theorem aJ5 (h:∀a xs,Rd H a (.tup xs)->Rd H' a (.tup xs)):∀(ds:List PyData) {vs:List V},G5 ds=true->Reps K H vs ds->Reps K H' vs ds
 | [],_,_,r=>by cases r;exact .nil
 | d::ds,_,i,r=>by
  have e:imm d=true/\G5 ds=true:=by simpa[G5]using i
  cases r with | cons a b=>exact .cons (bD7 h d e.1 a) (aJ5 h ds e.2 b)
end
theorem Reps.length:∀{vs:List V} {ds:List PyData},Reps K H vs ds->vs.length=ds.length
 | _,[],r=>by cases r;rfl
 | _,d::ds,r=>by cases r with | cons a b=>simp[Reps.length b]
theorem Reps.get:∀{vs:List V} {ds:List PyData} {i:Nat} {v:V},Reps K H vs ds->vs[i]? = some v->∃d,ds[i]? = some d/\Rep K H v d
 | _,[],_,_,r,e=>by cases r;simp at e
 | _,d::ds,0,v,r,e=>by
  cases r with | cons a b=>simp at e;subst e;exact⟨d,rfl,a⟩
 | _,d::ds,i+1,v,r,e=>by
  cases r with
  | cons a b=>
   obtain⟨d',h1,h2⟩:=Reps.get (i:=i) (v:=v) b (by simpa using e)
   exact⟨d',by simpa using h1,h2⟩
theorem Reps.get':∀{vs:List V} {ds:List PyData} {i:Nat} {d:PyData},Reps K H vs ds->ds[i]? = some d->∃v,vs[i]? = some v/\Rep K H v d
 | _,[],_,_,r,e=>by simp at e
 | _,d::ds,0,v,r,e=>by
  cases r with | cons a b=>simp at e;subst e;exact⟨_,rfl,a⟩
 | _,d::ds,i+1,v,r,e=>by
  cases r with
  | cons a b=>
   obtain⟨d',h1,h2⟩:=Reps.get' (i:=i) b (by simpa using e)
   exact⟨d',by simpa using h1,h2⟩
theorem Reps.append:∀{vs us:List V} {ds es:List PyData},Reps K H vs ds->Reps K H us es->Reps K H (vs++us) (ds++es)
 | _,_,[],_,r,s=>by cases r;exact s
 | _,_,d::ds,_,r,s=>by cases r with | cons a b=>exact .cons a (Reps.append b s)
theorem Reps.drop:∀{vs:List V} {ds:List PyData} (n:Nat),Reps K H vs ds->Reps K H (vs.drop n) (ds.drop n)
 | _,_,0,r=>r
 | _,[],n+1,r=>by cases r;exact .nil
 | _,d::ds,n+1,r=>by cases r with | cons a b=>exact Reps.drop n b
theorem Reps.take:∀{vs:List V} {ds:List PyData} (n:Nat),Reps K H vs ds->Reps K H (vs.take n) (ds.take n)
 | _,_,0,r=>.nil
 | _,[],n+1,r=>by cases r;exact .nil
 | _,d::ds,n+1,r=>by cases r with | cons a b=>exact .cons a (Reps.take n b)
theorem Reps.set:∀{vs:List V} {ds:List PyData} (n:Nat) {v:V} {d:PyData},Reps K H vs ds->Rep K H v d->Reps K H (vs.set n v) (ds.set n d)
 | _,[],n,_,_,r,_=>by cases r;exact .nil
 | _,e::ds,0,_,_,r,s=>by cases r with | cons a b=>exact .cons s b
 | _,e::ds,n+1,_,_,r,s=>by cases r with | cons a b=>exact .cons a (Reps.set n b s)
theorem Reps.eraseIdx:∀{vs:List V} {ds:List PyData} (n:Nat),Reps K H vs ds->Reps K H (vs.eraseIdx n) (ds.eraseIdx n)
 | _,[],n,r=>by cases r;exact .nil
 | _,e::ds,0,r=>by cases r with | cons a b=>exact b
 | _,e::ds,n+1,r=>by cases r with | cons a b=>exact .cons a (Reps.eraseIdx n b)
theorem Reps.dropLast {vs:List V}{ds:List PyData}(r:Reps K H vs ds):Reps K H vs.dropLast ds.dropLast:=by
 rw[List.dropLast_eq_take,List.dropLast_eq_take,r.length];exact r.take _
theorem Reps.reverse:∀{vs:List V} {ds:List PyData},Reps K H vs ds->Reps K H vs.reverse ds.reverse
 | _,[],r=>by cases r;exact .nil
 | _,d::ds,r=>by
  cases r with
  | cons a b=>rw[List.reverse_cons,List.reverse_cons];exact(Reps.reverse b).append (.cons a .nil)
theorem M0:∀(l:List Int),Reps K H (l.map V.int) (l.map PyData.int)
 | []=>.nil
 | i::l=>.cons (.int i) (M0 l)
theorem Reps.ints:∀{l:List Int} {vs:List V},Reps K H vs (l.map PyData.int)->vs=l.map V.int
 | [],_,r=>by cases r;rfl
 | i::l,_,r=>by
  cases r with
  | cons a b=>cases a;rw[Reps.ints b];rfl
end
open Classical in
noncomputable def hid (S:Addr->Prop)(H:Hp):Hp:=λb=>if S b then none else H b
section
variable {S S':Addr->Prop}{H H':Hp}{b:Addr}{o:HO}
theorem hid_some:hid S H b=some o↔¬S b/\H b=some o:=by
 unfold hid;by_cases h:S b
 .rw[Ae h];exact⟨(λe=>nomatch e),λe=>absurd h e.1⟩
 .rw[Ac h];exact⟨λe=>⟨h,e⟩,λe=>e.2⟩
theorem H9:Same (hid S H) H:=λb o e=>(hid_some.mp e).2
theorem D8 (h:Same H H')(w:∀b,S' b->H b≠none->S b):Same (hid S H) (hid S' H'):=λb o e=>by
 obtain⟨a,c⟩:=hid_some.mp e;exact hid_some.mpr ⟨λz=>a (w b z (by rw[c];simp)),h b o c⟩
theorem G0 (h:Same H H'):Same (hid S H) (hid S H'):=D8 h λ_ z _=>z
theorem W7 (w:∀b,S b->∃u:HM,H b=some u.ho)(r:Rd H a (.tup xs)):Rd (hid S H) a (.tup xs):=by
 have n:¬S a:=λz=>by
  obtain⟨s,e⟩:=w a z;rcases r with r | ⟨o,r⟩ <;> rw[e]at r <;> replace r:=Ab4 r
  .exact HM.nt r
  .exact HM.nf r
 rcases r with r | ⟨o,r⟩
 .exact .inl (hid_some.mpr ⟨n,r⟩)
 .exact .inr ⟨o,hid_some.mpr ⟨n,r⟩⟩
end
inductive OT where
 | leaf (d:PyData) | tup (ts:List OT) | lst (ts:List OT) | dic (kvs:List (List Int×PyData))
mutual
def OT.data:OT->PyData
 | .leaf d=>d
 | .tup ts=>.tuple (OT.datas ts)
 | .lst ts=>.list (OT.datas ts)
 | .dic kvs=>dD kvs
def OT.datas:List OT->List PyData
 | []=>[]
 | t::ts=>t.data::OT.datas ts
end
mutual
/-- v is the tree t;L: its lists -/
inductive Dp (K:Frag)(Z H:Hp):V->OT->List Addr->Prop
 | leaf {v:V} {d:PyData}:Rep K Z v d->Dp K Z H v (.leaf d) []
 | tup {a:Addr} {xs:List V} {ts:List OT} {L:List Addr}:SqT K H a xs->Dps K Z H xs ts L->Dp K Z H (.ref a) (.tup ts) L
 | lst {a:Addr} {xs:List V} {ts:List OT} {L:List Addr}:H a=some (.lst xs)->Dps K Z H xs ts L->Dp K Z H (.ref a) (.lst ts) (a::L)
 | dic {a:Addr} {kv:List (List Int×Addr×V)} {kvs:List (List Int×PyData)}:H a=some (L2.dicO a kv)->kv.map (·.1)=kvs.map (·.1)->Reps K Z (kv.map λx=>V.ref x.2.1) (kvs.map λx=>PyData.tuple (x.1.map PyData.int))->Reps K Z (kv.map (·.2.2)) (kvs.map (·.2))->Dp K Z H (.ref a) (.dic kvs) [a]
inductive Dps (K:Frag)(Z H:Hp):List V->List OT->List Addr->Prop
 | nil:Dps K Z H [] [] []
 | cons {v:V} {t:OT} {vs:List V} {ts:List OT} {L L':List Addr}:Dp K Z H v t L->Dps K Z H vs ts L'->Dps K Z H (v::vs) (t::ts) (L++L')
end
section
variable {K:Frag}{Z Z' H H':Hp}
mutual
/-- only its lists and what is below count -/
theorem aA7 (w:Same Z Z')(z:∀a xs,Rd H a (.tup xs)->Rd H' a (.tup xs)):∀(t:OT) {v:V} {L:List Addr},(∀b∈L,H' b=H b)->Dp K Z H v t L->Dp K Z' H' v t L
 | .leaf d,_,_,_,r=>by cases r with | leaf r=>exact .leaf (r.mono w)
 | .tup ts,_,_,e,r=>by cases r with | tup s r=>exact .tup (s.imp (z _ _) id) (a9 w z ts e r)
 | .lst ts,_,_,e,r=>by
  cases r with
  | lst s r=>exact .lst (by rw[e _ (by simp)];exact s) (a9 w z ts (λb h=>e b (by simp[h])) r)
 | .dic kvs,_,_,e,r=>by
  cases r with
  | dic s k m Y=>exact .dic (by rw[e _ (by simp)];exact s) k (m.mono w) (Y.mono w)
theorem a9 (w:Same Z Z')(e:∀a xs,Rd H a (.tup xs)->Rd H' a (.tup xs)):∀(ts:List OT) {vs:List V} {L:List Addr},(∀b∈L,H' b=H b)->Dps K Z H vs ts L->Dps K Z' H' vs ts L
 | [],_,_,_,r=>by cases r;exact .nil
 | t::ts,_,_,hl,r=>by
  cases r with
  | cons a b=>exact .cons (aA7 w e t (λb h=>hl b (by simp[h])) a) (a9 w e ts (λb h=>hl b (by simp[h])) b)
end
mutual
theorem y4:∀(t:OT) {v:V} {L:List Addr},Dp K Z H v t L->∀b∈L,∃u:HM,H b=some u.ho
 | .leaf d,_,_,r=>by cases r with | leaf r=>intro b h;simp at h
 | .tup ts,_,_,r=>by cases r with | tup s r=>exact Z8 ts r
 | .lst ts,_,_,r=>by
  cases r with
  | lst s r=>
   intro b h;rcases Aa1.mp h with rfl | h
   .exact⟨.l _,s⟩
   .exact Z8 ts r b h
 | .dic kvs,_,_,r=>by
  cases r with
  | dic s k e w=>
   intro b h;rw[Ad8.mp h];exact⟨.x _ _,s⟩
theorem Z8:∀(ts:List OT) {vs:List V} {L:List Addr},Dps K Z H vs ts L->∀b∈L,∃u:HM,H b=some u.ho
 | [],_,_,r=>by cases r;intro b h;simp at h
 | t::ts,_,_,r=>by
  cases r with
  | cons a b=>
   intro c h;rcases Aa0.mp h with h | h
   .exact y4 t a c h
   .exact Z8 ts b c h
end
theorem bJ8:∀{d:PyData},aK8 d=true->Rep K H v d->bF2 K H v d
 | .none,_,r=>by cases r;rfl
 | .bool _,_,r=>by cases r;rfl
 | .int _,_,r=>by cases r;rfl
 | .str _,_,r=>by cases r;rfl
 | .list _,f,_=>by cases f
 | .dict _,f,_=>by cases f
 | .tuple ds,f,r=>by
  cases r with
  | @tup a xs _ s rs=>
   have z:∀(ds:List PyData) (xs:List V),(ds.all λd=>match d with | .int _=>true | _=>false)=true->Reps K H xs ds->∃l:List Int,ds=l.map PyData.int/\xs=l.map V.int:=λds=>by
    induction ds with
    | nil=>intro xs _ r;cases r;exact⟨[],rfl,rfl⟩
    | cons d ds m=>
     intro xs f r;rw[List.all_cons,Ba]at f;cases r with
     | cons a b=>
      obtain⟨l,e,w⟩:=m _ f.2 b;cases d with
      | int i=>cases a;exact⟨i::l,by rw[e];rfl,by rw[w];rfl⟩
      | _=>cases f.1
   obtain⟨l,e,w⟩:=z ds xs f rs;exact⟨a,l,rfl,e,by rw[<- w];exact s⟩
theorem cT8:∀{kv:List (List Int×Addr×V)} {kvs:List (List Int×PyData)},kvs.all (λx=>aK8 x.2)=true->kv.map (·.1)=kvs.map (·.1)->Reps K H (kv.map λx=>V.ref x.2.1) (kvs.map λx=>PyData.tuple (x.1.map PyData.int))->Reps K H (kv.map (·.2.2)) (kvs.map (·.2))->KvF K H kv kvs
 | [],[],_,_,_,_=>.nil
 | [],_::_,_,e,_,_=>by simp at e
 | _::_,[],_,e,_,_=>by simp at e
 | x::kv,y::kvs,f,e,r1,r2=>by
  simp only[Ac7,Bd]at e r1 r2;rw[List.all_cons,Ba]at f;cases r1 with
  | cons a1 b1=>
   cases r2 with
   | cons a2 b2=>
    refine .cons ⟨e.1,?_,bJ8 f.1 a2⟩ (cT8 f.2 e.2 b1 b2);have z:bF2 K H (.ref x.2.1) (PyData.tuple (y.1.map PyData.int)):=bJ8 (by simp[aK8,List.all_map,Function.comp_def]) a1
    obtain⟨a,l,h1,h2,h3⟩:=z;cases h1
    have:y.1=l:=by
     have inj:∀(u v:List Int),u.map PyData.int=v.map PyData.int->u=v:=λu=>by
      induction u with
      | nil=>intro v h;cases v <;> simp at h ⊢
      | cons c u ih=>intro v h;cases v with
       | nil=>simp at h
       | cons c' v=>simp at h;rw[h.1,ih v h.2]
     exact inj _ _ h2
    rw[e.1,this];exact h3
mutual
/-- the tree is a datum,where one sees its lists -/
theorem bG0 (m:Same Z H)(z:∀a xs,Rd H a (.tup xs)->Rd H' a (.tup xs))(e:Same Z H'):∀(t:OT) {v:V} {L:List Addr},(∀b∈L,H' b=H b)->Dp K Z H v t L->Rep K H' v t.data
 | .leaf d,_,_,_,r=>by cases r with | leaf r=>exact r.mono e
 | .tup ts,_,_,w,r=>by
  cases r with
  | tup s r=>exact .tup (s.imp (z _ _) id) (bF9 m z e ts w r)
 | .lst ts,_,_,w,r=>by
  cases r with
  | lst s r=>exact .lst (SqL.of (by rw[w _ (by simp)];exact s)) (bF9 m z e ts (λb h=>w b (by simp[h])) r)
 | .dic kvs,_,_,w,r=>by
  cases r with
  | dic s k Y X=>
   show Rep K H' _ (dD kvs)
   unfold dD;split
   .rename_i f;exact .dic (.inl (by rw[w _ (by simp)];exact s)) (aS4 e (cT8 f k Y X)) rfl
   .exact .ptr
theorem bF9 (z:Same Z H)(w:∀a xs,Rd H a (.tup xs)->Rd H' a (.tup xs))(e:Same Z H'):∀(ts:List OT) {vs:List V} {L:List Addr},(∀b∈L,H' b=H b)->Dps K Z H vs ts L->Reps K H' vs (OT.datas ts)
 | [],_,_,_,r=>by cases r;exact .nil
 | t::ts,_,_,hl,r=>by
  cases r with
  | cons a b=>exact .cons (bG0 z w e t (λb h=>hl b (by simp[h])) a) (bF9 z w e ts (λb h=>hl b (by simp[h])) b)
end
theorem Dp.mono (r:Dp K Z H v t L)(z:Same Z Z')(h:Same H H'):Dp K Z' H' v t L:=
 aA7 z (λ_ _=>O7 h) t (λb w=>by obtain⟨xs,e⟩:=y4 t r b w;rw[e];exact h _ _ e) r
end
inductive Sl where
 | no | val (d:PyData) | own (ds:List PyData) | bor (d:PyData) | tr (t:OT)
def Sl.os:Sl->Bool
 | .own _=>true
 | .tr _=>true
 | _=>false
def C9 (ρ:List Sl)(o:Nat->List Addr)(S:Addr->Prop)(b:Addr):Prop:=S b\/∃(i:Nat) (x:Sl),ρ[i]? = some x/\x.os=true/\b∈o i
structure Env (K:Frag)(S:Addr->Prop)(B H:Hp)(σ:St)(ρ:List Sl)(o:Nat->List Addr):Prop where
 len:σ.length=ρ.length
 base:Same B H
 sl:∀b,S b->∃u:HM,B b=some u.ho
 new:∀(i:Nat) (x:Sl),ρ[i]? = some x->x.os=true->∀b∈o i,B b=none
 inj:∀(i j:Nat) (x y:Sl),ρ[i]? = some x->ρ[j]? = some y->x.os=true->y.os=true->∀b,b∈o i->b∈o j->i=j
 own:∀(i:Nat) (ds:List PyData),ρ[i]? = some (.own ds)->∃p,o i=[p]/\σ[i]? = some (some (.ref p))/\∃xs,H p=some (.lst xs)/\Reps K (hid (C9 ρ o S) H) xs ds
 val:∀(i:Nat) (d:PyData),ρ[i]? = some (.val d)->∃v,σ[i]? = some (some v)/\Rep K (hid (C9 ρ o S) H) v d
 bor:∀(i:Nat) (d:PyData),ρ[i]? = some (.bor d)->∃v,σ[i]? = some (some v)/\Rep K H v d
 tr:∀(i:Nat) (t:OT),ρ[i]? = some (.tr t)->(o i).Nodup/\∃v,σ[i]? = some (some v)/\Dp K (hid (C9 ρ o S) H) H v t (o i)
section
variable {K:Frag}{S:Addr->Prop}{B H H':Hp}{σ:St}{ρ:List Sl}{o:Nat->List Addr}
theorem Env.grow (e:Env K S B H σ ρ o)(h:Same H H'):Env K S B H' σ ρ o:=
 ⟨e.len,L2.Same.tr e.base h,e.sl,e.new,e.inj,λi ds z=>by
  obtain⟨p,w,a,xs,b,c⟩:=e.own i ds z;exact⟨p,w,a,xs,h _ _ b,c.mono (G0 h)⟩,λi d z=>by
  obtain⟨v,a,b⟩:=e.val i d z;exact⟨v,a,b.mono (G0 h)⟩,λi d z=>by
  obtain⟨v,a,b⟩:=e.bor i d z;exact⟨v,a,b.mono h⟩,λi t z=>by
  obtain⟨n,v,a,b⟩:=e.tr i t z;exact⟨n,v,a,b.mono (G0 h) h⟩⟩
theorem Env.lists (e:Env K S B H σ ρ o):∀b,C9 ρ o S b->∃u:HM,H b=some u.ho:=λb z=>by
 rcases z with z | ⟨i,x,z,s,w⟩
 .obtain⟨xs,q⟩:=e.sl b z;exact⟨xs,e.base _ _ q⟩
 .cases x with
  | own ds=>
   obtain⟨p,m,_,xs,q,_⟩:=e.own i ds z;rw[m]at w;exact⟨.l xs,by rw[Ad8.mp w];exact q⟩
  | tr t=>
   obtain⟨_,v,_,q⟩:=e.tr i t z;exact y4 t q b w
  | _=>cases s
theorem Env.imm (e:Env K S B H σ ρ o)(i:imm d=true)(r:Rep K H v d):Rep K (hid (C9 ρ o S) H) v d:=
 bD7 (λ_ _ q=>W7 e.lists q) d i r
def aP2 (ρ:List Sl)(o:Nat->List Addr)(b:Addr):Prop:=∃(i:Nat) (x:Sl),ρ[i]? = some x/\x.os=true/\b∈o i
theorem Env.rebase (e:Env K S B H σ ρ o):Env K S (hid (aP2 ρ o) H) H σ ρ o/\Same B (hid (aP2 ρ o) H):=by
 have s:Same B (hid (aP2 ρ o) H):=λb x q=>
  hid_some.mpr ⟨(λ⟨i,y,z,Y,w⟩=>by rw[e.new i y z Y b w]at q;cases q),e.base b x q⟩
 refine⟨⟨e.len,H9,λb z=>?_,λi x z m b w=>?_,e.inj,e.own,e.val,e.bor,e.tr⟩,s⟩
 .obtain⟨xs,q⟩:=e.sl b z;exact⟨xs,s _ _ q⟩
 .unfold hid;exact Ae ⟨i,x,z,m,w⟩
end
noncomputable def vw (m:Bool)(S:Addr->Prop)(H:Hp):Hp:=match m with | true=>hid S H | false=>H
def E (K:Frag)(m:Bool)(t:TE)(ρ:List Sl)(d:PyData):Prop:=
 ∀(S:Addr->Prop) (B:Hp) (σ:St) (H:Hp) (o:Nat->List Addr),Env K S B H σ ρ o->∀Q:VK,(∀v H',Same H H'->Rep K (vw m (C9 ρ o S) H') v d->Q v H')->t σ H Q
def EF (K:Frag)(t:TE)(ρ:List Sl)(ds:List PyData):Prop:=
 ∀(S:Addr->Prop) (B:Hp) (σ:St) (H:Hp) (o:Nat->List Addr),Env K S B H σ ρ o->∀Q:VK,
  (∀p xs H',Same H H'->H p=none->H' p=some (.lst xs)->Reps K (hid (λb=>C9 ρ o S b\/b=p) H') xs ds->Q (.ref p) H')->t σ H Q
def T (K:Frag)(t:TT)(ρ:List Sl)(b:Bool):Prop:=
 ∀(S:Addr->Prop) (B:Hp) (σ:St) (H:Hp) (o:Nat->List Addr),Env K S B H σ ρ o->∀Q:Bool->Hp->Prop,(∀H',Same H H'->Q b H')->t σ H Q
def A (K:Frag)(m:Bool)(t:TA)(ρ:List Sl)(ds:List PyData):Prop:=
 ∀(S:Addr->Prop) (B:Hp) (σ:St) (H:Hp) (o:Nat->List Addr),Env K S B H σ ρ o->∀Q:List V->Hp->Prop,(∀vs H',Same H H'->Reps K (vw m (C9 ρ o S) H') vs ds->Q vs H')->t σ H Q
structure Wk (K:Frag)(Z:Hp)(J:It)(ds:List PyData):Prop where
 stop:∀i H,Same Z H->ds.length<=i->J.stop i H
 go:∀i H d,Same Z H->ds[i]? = some d->J.go i H
 yld:∀i H d x H',Same Z H->ds[i]? = some d->J.yld i H x H'->Same H H'/\∀S:Addr->Prop,(∀b,S b->Z b=none/\H b≠none)->Rep K (hid S H') x d
def I (K:Frag)(m:Bool)(wi:TI)(ρ:List Sl)(ds:List PyData):Prop:=
 ∀(S:Addr->Prop) (B:Hp) (σ:St) (H:Hp) (o:Nat->List Addr),Env K S B H σ ρ o->∀R:It->Hp->Prop,(∀J H',Same H H'->Wk K (vw m (C9 ρ o S) H') J ds->R J H')->wi σ H R
def G (K:Frag)(m:Bool)(g:TG)(d:PyData)(ρ ρ':List Sl):Prop:=(∀(o:Nat->List Addr) (S:Addr->Prop) (b:Addr),C9 ρ' o S b->C9 ρ o S b) /\
 ∀(S:Addr->Prop) (B:Hp) (σ:St) (H:Hp) (o:Nat->List Addr),Env K S B H σ ρ o->∀v,Rep K (vw m (C9 ρ o S) H) v d->∀Q:St->Hp->Prop,(∀σ',Env K S B H σ' ρ' o->Q σ' H)->g v σ H Q
def Gs (K:Frag)(m:Bool)(g:TGs)(ds:List PyData)(ρ ρ':List Sl):Prop:=(∀(o:Nat->List Addr) (S:Addr->Prop) (b:Addr),C9 ρ' o S b->C9 ρ o S b) /\
 ∀(S:Addr->Prop) (B:Hp) (σ:St) (H:Hp) (o:Nat->List Addr),Env K S B H σ ρ o->∀vs,Reps K (vw m (C9 ρ o S) H) vs ds->∀Q:St->Hp->Prop,(∀σ',Env K S B H σ' ρ' o->Q σ' H)->g vs σ H Q
structure AE where
 nx:List Sl->Prop
 rt:PyData->Prop:=λ_=>False
 rl:List PyData->Prop:=λ_=>False
 bk:List Sl->Prop:=λ_=>False
 ct:List Sl->Prop:=λ_=>False
structure Sat (K:Frag)(S:Addr->Prop)(B:Hp)(R:AE)(D:bI0):Prop where
 nx:∀ρ' σ' H' o',Env K S B H' σ' ρ' o'->R.nx ρ'->D.nx σ' H'
 rt:∀v d H',Same B H'->Rep K (hid S H') v d->R.rt d->D.rt v H'
 rl:∀p xs ds H',Same B H'->B p=none->H' p=some (.lst xs)->Reps K (hid (λb=>S b\/b=p) H') xs ds->R.rl ds->D.rt (.ref p) H'
 bk:∀ρ' σ' H' o',Env K S B H' σ' ρ' o'->R.bk ρ'->D.bk σ' H'
 ct:∀ρ' σ' H' o',Env K S B H' σ' ρ' o'->R.ct ρ'->D.ct σ' H'
def W (K:Frag)(t:TS)(ρ:List Sl)(R:AE):Prop:=
 ∀(S:Addr->Prop) (B:Hp) (D:bI0) (σ:St) (H:Hp) (o:Nat->List Addr),Env K S B H σ ρ o->Sat K S B R D->t D σ H
section
variable {K:Frag}{ρ ρ' ρ1:List Sl}{m:Bool}{t ta tb tc:TE}{d d':PyData}{ds es:List PyData}
theorem aA3:Same (vw m S H) H:=by cases m;exact L2.Same.rf _;exact H9
theorem aQ2 (h:Same H H'):Same (vw m S H) (vw m S H'):=by cases m;exact h;exact G0 h
theorem E.bor (h:E K true t ρ d):E K m t ρ d:=λS B σ H o I Q q=>h S B σ H o I Q λv e s r=>q v e s (by cases m;exact r.mono H9;exact r)
theorem E.imm (h:E K m t ρ d)(i:imm d=true:=by rfl):E K true t ρ d:=λS B σ H o I Q q=>h S B σ H o I Q λv e s r=>q v e s ((I.grow s).imm i (r.mono aA3))
theorem EF.e' (h:EF K t ρ ds):E K m t ρ (.list ds):=E.bor λS B σ H o I Q q=>h S B σ H o I Q λp xs w s n e r=>q _ _ s
 (.lst (SqL.of (hid_some.mpr ⟨(λz=>by obtain⟨Y,y⟩:=I.lists p z;rw[n]at y;cases y),e⟩)) (r.mono (D8 (L2.Same.rf _) λb z _=>.inl z)))
theorem A6 (h:ρ[i]? = some (.val d)):E K m (D7 i) ρ d:=E.bor λS B σ H o I Q q=>by
 obtain⟨v,a,b⟩:=I.val i d h;exact⟨v,a,q v H (L2.Same.rf _) b⟩
theorem K0 (h:ρ[i]? = some (.own ds)):E K false (D7 i) ρ (.list ds):=λS B σ H o I Q q=>by
 obtain⟨p,e,a,xs,b,c⟩:=I.own i ds h;exact⟨_,a,q _ H (L2.Same.rf _) (.lst (SqL.of b) (c.mono H9))⟩
theorem dT5 {i:Nat}{t:OT}(h:ρ[i]? = some (.tr t)):E K false (D7 i) ρ t.data:=λS B σ H o I Q q=>by
 obtain⟨_,v,a,b⟩:=I.tr i t h;exact⟨_,a,q _ H (L2.Same.rf _) (bG0 H9 (λ_ _ z=>z) H9 t (λ_ _=>rfl) b)⟩
theorem cI7 (h:ρ[i]? = some (.bor d)):E K false (D7 i) ρ d:=λS B σ H o I Q q=>by
 obtain⟨v,a,b⟩:=I.bor i d h;exact⟨v,a,q v H (L2.Same.rf _) b⟩
theorem bV9 (h:∀H,Rep K H v d):E K m (tC v) ρ d:=λS B σ H o I Q q=>q v H (L2.Same.rf _) (h _)
theorem A7:E K m (tC (.int i)) ρ (.int i):=bV9 λ_=>.int i
theorem bP3:E K m (tC (.bl b)) ρ (.bool b):=bV9 λ_=>.bl b
theorem bT6 (z Y:Bool)(U:E K z ta ρ d)(J:E K Y tb ρ d')
  (hr:∀(S:Addr->Prop) (H:Hp) (x y:V) (Q:VK),(∀b,S b->∃u:HM,H b=some u.ho)->Rep K (vw z S H) x d->Rep K (vw Y S H) y d'->(∀v H',Same H H'->Rep K (vw m S H') v f->Q v H')->r x y H Q):E K m (tOp r ta tb) ρ f:=
 λS B σ H o I Q q=>U S B σ H o I _ λx H1 e M=>J S B σ H1 o (I.grow e) _ λy X w N=>
  hr (C9 ρ o S) X x y Q ((I.grow e).grow w).lists (M.mono (aQ2 w)) N λv H' s r=>q v H' (L2.Same.tr e (L2.Same.tr w s)) r
theorem bM6 (e:E K false ta ρ (.int i))(w:E K false tb ρ (.int j))(hr:∀(H:Hp) (Q:VK),(∀v,(∀H,Rep K H v f)->Q v H)->r (.int i) (.int j) H Q):E K m (tOp r ta tb) ρ f:=
 bT6 false false e w λS H x y Q _ z s q=>by
  cases z;cases s
  exact hr H Q λv r=>q v H (L2.Same.rf _) (r _)
theorem K5 {g:Int->Int->Int}{i j:Int}(e:E K false ta ρ (.int i))(w:E K false tb ρ (.int j)):E K m (tOp (rI0 λi j=>.int (g i j)) ta tb) ρ (.int (g i j)):=
 bM6 e w λH Q q=>⟨i,j,rfl,rfl,q _ λ_=>.int _⟩
theorem e_i {C:Int->Int->Prop}{g:Int->Int->Int}{i j:Int}(e:E K false ta ρ (.int i))(w:E K false tb ρ (.int j))(z:C i j):E K m (tOp (rI C λi j=>.int (g i j)) ta tb) ρ (.int (g i j)):=
 bM6 e w λH Q q=>⟨i,j,rfl,rfl,z,q _ λ_=>.int _⟩
theorem aX3 {g:Int->Int->Bool}{i j:Int}(e:E K false ta ρ (.int i))(w:E K false tb ρ (.int j)):E K m (tOp (rI0 λi j=>.bl (g i j)) ta tb) ρ (.bool (g i j)):=
 bM6 e w λH Q q=>⟨i,j,rfl,rfl,q _ λ_=>.bl _⟩
end
end LV
namespace LV
open PySem L2
section
variable {K:Frag}{ρ ρ' ρ1:List Sl}{m m':Bool}{t ta tb tc:TE}{d d':PyData}{ds es:List PyData}
theorem cN3 (r:Reps K H xs ds)(e:atI ds i=some d):∃v,atI xs i=some v/\Rep K H v d:=by
 unfold atI at e ⊢;rw[r.length];cases h:ixN ds.length i with
 | none=>rw[h]at e;cases e
 | some j=>rw[h]at e;exact r.get' (by simpa using e)
def sq:PyData->Option (List PyData)
 | .list ds=>some ds
 | .tuple ds=>some ds
 | _=>none
theorem D9 (z:E K m ta ρ d)(Y:E K false tb ρ (.int i))(w:sq d=some ds)(h:atI ds i=some d'):E K m (tOp (rIx K) ta tb) ρ d':=
 bT6 m false z Y λS H x y Q _ X U q=>by
  cases U;cases X with
  | lst s r=>
   cases w
   obtain⟨v,h1,e⟩:=cN3 r h;exact .inl ⟨_,_,i,v,rfl,rfl,O5 aA3 s,h1,q v H (L2.Same.rf _) e⟩
  | tup s r=>
   cases w
   obtain⟨v,h1,e⟩:=cN3 r h;exact .inr (.inl ⟨_,_,i,v,rfl,rfl,D3 aA3 s,h1,q v H (L2.Same.rf _) e⟩)
  | _=>cases w
theorem W2 {α:Type}{xs:List α}{i:Int}{v:α}(n:Nat)(e:i=n)(h:xs[n]? = some v):atI xs i=some v:=by
 subst e;unfold atI ixN
 have:=(Ab0.mp h).1
 rw[Ae (by lia),Ae (by lia)]
 simpa using h
theorem aH5 {α:Type}{xs:List α}{v:α}:atI (xs++[v]) (-1)=some v:=by
 unfold atI ixN;rw[Ac (by lia),Ae (by simp;lia)]
 have:((-1:Int)+((xs++[v]).length:Nat)).toNat=xs.length:=by simp;lia
 rw[this];simp
theorem A5:A K m V7 ρ []:=λS B σ H o I Q q=>q [] H (L2.Same.rf _) .nil
theorem A1 (s:E K m ta ρ d)(hr:A K m tr ρ ds):A K m (G1 ta tr) ρ (d::ds):=λS B σ H o I Q q=>
 s S B σ H o I _ λx H1 e Y=>hr S B σ H1 o (I.grow e) _ λxs z w rs=>q _ z (L2.Same.tr e w) (.cons (Y.mono (aQ2 w)) rs)
theorem D1 (h:H p=none):Same H (upd H p o):=λb x e=>by
 have:b≠p:=λz=>by rw[z,h]at e;cases e
 rw[B0 this];exact e
theorem F5 {t:TA}(h:A K m t ρ ds)(w:ds.length<=sizeLine:=by first | decide | (unfold PySem.sizeLine;simp)):E K m (bP4 t) ρ (.tuple ds):=λS B σ H o I Q q=>h S B σ H o I _ λxs H1 e rs=>⟨by rw[rs.length];exact w,λp hp=>by
 have g:=D1 (o:=.tup xs) hp
 refine q _ _ (L2.Same.tr e g) (.tup (.inl (.inl ?_)) (rs.mono (aQ2 g)));cases m with
 | false=>exact B3
 | true=>exact hid_some.mpr ⟨(λz=>by obtain⟨s,y⟩:=(I.grow e).lists p z;rw[hp]at y;cases y),B3⟩⟩
theorem aL9 (w:∀b,S b->∃u:HM,H b=some u.ho)(hp:H p=none)(r:Reps K (hid S H) xs ds):Reps K (hid (λb=>S b\/b=p) (upd H p (.lst ys))) xs ds:=
 r.mono (D8 (D1 hp) λb z n=>z.elim id λe=>absurd (by rw[e];exact hp) n)
theorem E9 {t:TA}(h:A K true t ρ ds)(z:ds.length<=sizeLine:=by first | decide | (unfold PySem.sizeLine;simp)):EF K (dJ3 t) ρ ds:=λS B σ H o I Q q=>h S B σ H o I _ λxs H1 w rs=>⟨by rw[rs.length];exact z,λp hp=>
 q p xs _ (L2.Same.tr w (D1 hp)) (by cases e:H p with | none=>rfl | some x=>rw[w _ _ e]at hp;cases hp) B3 (aL9 (I.grow w).lists hp rs)⟩
def spV (K:Frag)(pre:List PyData->PyData->Prop):Sp:=λvs H Q _=>∃(ds:List PyData) (S:Addr->Prop) (d:PyData),(∀b,S b->∃u:HM,H b=some u.ho)/\Reps K (hid S H) vs ds/\pre ds d /\
 ∀v H',Same H H'->Rep K (hid S H') v d->Q v H'
def spL (K:Frag)(pre:List PyData->List PyData->Prop):Sp:=λvs H Q _=>∃(ds:List PyData) (S:Addr->Prop) (es:List PyData),(∀b,S b->∃u:HM,H b=some u.ho)/\Reps K (hid S H) vs ds/\pre ds es /\
 ∀p xs H',Same H H'->H p=none->H' p=some (.lst xs)->Reps K (hid (λb=>S b\/b=p) H') xs es->Q (.ref p) H'
theorem cR7:hid (λ_=>False) H=H:=by funext b;unfold hid;exact Ac id
theorem C8 {pre:List PyData->PyData->Prop}{t:TA}{X:XK}(z:A K true t ρ ds)(hp:pre ds d):E K m (aW8 (spV K pre) [] X t) ρ d:=E.bor λS B σ H o I Q q=>
 z S B σ H o I _ λvs H1 e rs=>⟨ds,C9 ρ o S,d,(I.grow e).lists,by rw[Cd];exact rs,hp,λv w s r=>q v w (L2.Same.tr e s) r⟩
theorem O4 (s:Same H H1)(h:H1 p=none):H p=none:=by
 cases e:H p with
 | none=>rfl
 | some x=>rw[s _ _ e]at h;cases h
theorem S5 {pre:List PyData->List PyData->Prop}{t:TA}{X:XK}(Y:A K true t ρ ds)(hp:pre ds es):EF K (aW8 (spL K pre) [] X t) ρ es:=λS B σ H o I Q q=>
 Y S B σ H o I _ λvs H1 w rs=>⟨ds,C9 ρ o S,es,(I.grow w).lists,by rw[Cd];exact rs,hp,λp xs z s n e r=>q p xs z (L2.Same.tr w s) (O4 w n) e r⟩
theorem C5 (h:E K false t ρ (.bool b)):T K (bB2 t) ρ b:=λS B σ H o I Q q=>h S B σ H o I _ λv e s r=>by cases r;exact⟨b,rfl,q e s⟩
theorem t_b (h:E K false t ρ (.bool b)):T K (tB t) ρ b:=λS B σ H o I Q q=>h S B σ H o I _ λv e s r=>by cases r;exact⟨b,rfl,q e s⟩
theorem aK7 (h:T K u ρ a)(h':a=true->T K w ρ b):T K (dU7 u w) ρ (a&&b):=λS B σ H o I Q q=>h S B σ H o I _ λH1 e=>by
 cases a with
 | false=>exact q H1 e
 | true=>exact h' rfl S B σ H1 o (I.grow e) _ λz s=>q z (L2.Same.tr e s)
theorem cW2 (h:T K u ρ a)(h':a=false->T K w ρ b):T K (tOr u w) ρ (a||b):=λS B σ H o I Q q=>h S B σ H o I _ λH1 e=>by
 cases a with
 | true=>exact q H1 e
 | false=>exact h' rfl S B σ H1 o (I.grow e) _ λz s=>q z (L2.Same.tr e s)
theorem aS2 (h:T K u ρ a):T K (dQ4 u) ρ (!a):=λS B σ H o I Q q=>h S B σ H o I _ q
theorem dE3 (h:E K false ta ρ (.bool a))(h':a=true->E K false tb ρ (.bool b)):E K m (dD6 ta tb) ρ (.bool (a&&b)):=E.bor (E.imm (m:=false) λS B σ H o I Q q=>h S B σ H o I _ λv H1 e r=>by
 cases r
 refine⟨a,rfl,?_⟩;cases a with
 | false=>exact q _ H1 e (.bl _)
 | true=>exact h' rfl S B σ H1 o (I.grow e) _ λv w z r=>q v w (L2.Same.tr e z) r)
theorem dT6 (h:E K false ta ρ (.bool a)):E K m (dF5 ta) ρ (.bool (!a)):=E.bor (E.imm (m:=false) λS B σ H o I Q q=>h S B σ H o I _ λv H1 e r=>by
 cases r
 exact⟨a,rfl,q _ H1 e (.bl _)⟩)
theorem dU5 (h:T K u ρ a)(h1:a=true->E K m ta ρ d)(s:a=false->E K m tb ρ d):E K m (tIf u ta tb) ρ d:=λS B σ H o I Q q=>h S B σ H o I _ λH1 e=>by
 cases a with
 | true=>exact h1 rfl S B σ H1 o (I.grow e) _ λv w z r=>q v w (L2.Same.tr e z) r
 | false=>exact s rfl S B σ H1 o (I.grow e) _ λv w z r=>q v w (L2.Same.tr e z) r
theorem cV6 (s:SqL K Z a xs)(r:Reps K Z xs ds):Wk K Z (Itl K a) ds where
 stop:=λi H h l=>⟨xs,O5 h s,by rw[r.length];exact l⟩
 go:=λi H d h e=>by
  obtain⟨v,h1,_⟩:=r.get' e;exact⟨xs,v,O5 h s,h1⟩
 yld:=λi H d x X h e y=>by
  obtain⟨rfl,y⟩:=y
  have:=y xs (O5 h s)
  obtain⟨d',h1,w⟩:=r.get this;rw[e]at h1;cases h1;refine⟨L2.Same.rf _,λS Y=>w.mono λb o q=>hid_some.mpr ⟨λz=>?_,h b o q⟩⟩
  rw[(Y b z).1]at q;cases q
theorem dL2 (s:SqT K Z a xs)(r:Reps K Z xs ds):Wk K Z (Itt K a) ds where
 stop:=λi H h l=>⟨xs,D3 h s,by rw[r.length];exact l⟩
 go:=λi H d h e=>by
  obtain⟨v,h1,_⟩:=r.get' e;exact⟨xs,v,D3 h s,h1⟩
 yld:=λi H d x X h e y=>by
  obtain⟨rfl,y⟩:=y
  have:=y xs (D3 h s)
  obtain⟨d',h1,w⟩:=r.get this;rw[e]at h1;cases h1;refine⟨L2.Same.rf _,λS Y=>w.mono λb o q=>hid_some.mpr ⟨λz=>?_,h b o q⟩⟩
  rw[(Y b z).1]at q;cases q
def Z6 (lo:Int)(n:Nat):List PyData:=(List.range n).map λ(i:Nat)=>PyData.int (lo+(i:Int))
theorem dN7:Wk K Z (Itr lo n) (Z6 lo n) where
 stop:=λi H h l=>by
  have:n<=i:=by simpa[Z6]using l
  exact this
 go:=λi H d h e=>by
  have:=(Ab0.mp e).1
  have:i<n:=by simpa[Z6]using this
  exact this
 yld:=λi H d x z h e y=>by
  obtain⟨rfl,rfl⟩:=y
  have:d=.int (lo+i):=by
   have hi:=(Ab0.mp e).1
   have w:i<n:=by simpa[Z6]using hi
   unfold Z6 at e;rw[Aa9,List.getElem?_range w]at e;exact(Ab4 e).symm
  subst this;exact⟨L2.Same.rf _,λS s=>.int _⟩
theorem Z1 (h:E K m t ρ (.list ds)):I K m (dD7 K t) ρ ds:=λS B σ H o J R q=>h S B σ H o J _ λv H1 e r=>by
 cases r with
 | lst s r=>exact⟨_,rfl,⟨_,O5 aA3 s⟩,q _ H1 e (cV6 s r)⟩
theorem aC7 (h:E K m t ρ (.tuple ds)):I K m (dP6 K t) ρ ds:=λS B σ H o J R q=>h S B σ H o J _ λv H1 e r=>by
 cases r with
 | tup s r=>exact⟨_,rfl,⟨_,D3 aA3 s⟩,q _ H1 e (dL2 s r)⟩
theorem R9 {t:TA}{j:Int}(h:A K false t ρ [.int j])(h1 : -(2^62)<=j)(e:j<2^62):I K m (dE6 t) ρ (Z6 0 j.toNat):=λS B σ H o J R q=>h S B σ H o J _ λvs H1 w r=>by
 cases r with
 | cons a b=>cases a;cases b;exact⟨j,rfl,h1,e,q _ H1 w dN7⟩
theorem aQ3 (s:x.os=false)(z:C9 (ρ.set i x) o S b):C9 ρ o S b:=by
 rcases z with z | ⟨j,y,h,w,e⟩
 .exact .inl z
 .refine .inr ⟨j,y,?_,w,e⟩;rw[List.getElem?_set]at h;by_cases c:i=j
  .rw[Ae c]at h;split at h
   .rw[<- Ab4 h,s]at w;cases w
   .cases h
  .rw[Ac c]at h;exact h
def slot (m:Bool)(d:PyData):Sl:=match m with | true=>.val d | false=>.bor d
theorem Env.set (I:Env K S B H σ ρ o)(i:Nat)(r:Rep K (vw m (C9 ρ o S) H) v d):Env K S B H (σ.set i (some v)) (ρ.set i (slot m d)) o:=by
 have nx:(slot m d).os=false:=by cases m <;> rfl
 have Y:∀{x:Sl},x.os=true->x≠slot m d:=λ{x} h e=>by rw[e,nx]at h;cases h
 have at_:∀{j:Nat} {x:Sl},x≠slot m d->(ρ.set i (slot m d))[j]? = some x->i≠j/\ρ[j]? = some x:=λ{j x} w h=>by
  rw[List.getElem?_set]at h;by_cases c:i=j
  .rw[Ae c]at h;split at h
   .exact absurd (Ab4 h).symm w
   .cases h
  .rw[Ac c]at h;exact⟨c,h⟩
 have g:Same (hid (C9 ρ o S) H) (hid (C9 (ρ.set i (slot m d)) o S) H):=D8 (L2.Same.rf _) λb z _=>aQ3 nx z
 refine⟨by simp[I.len],I.base,I.sl,λj x h w=>I.new j x (at_ (Y w) h).2 w,λj k x y h U w X=>I.inj j k x y (at_ (Y w) h).2 (at_ (Y X) U).2 w X,λj ds h=>?_,λj d' h=>?_,λj d' h=>?_,λj t h=>?_⟩
 .obtain⟨c,h⟩:=at_ (Y rfl) h;obtain⟨p,J,a,xs,b,M⟩:=I.own j ds h;exact⟨p,J,by rw[Ad0 c];exact a,xs,b,M.mono g⟩
 .by_cases c:i=j
  .subst c;have s:i<ρ.length:=by
    have:=(Ab0.mp h).1
    simpa using this
   rw[Bh (by simpa using s)]at h
   cases m with
   | false=>simp[slot]at h
   | true=>
    simp[slot]at h;subst h
    exact⟨v,Bh (by rw[I.len];exact s),r.mono g⟩
  .rw[Ad0 c]at h;obtain⟨u,a,b⟩:=I.val j d' h;exact⟨u,by rw[Ad0 c];exact a,b.mono g⟩
 .by_cases c:i=j
  .subst c;have s:i<ρ.length:=by
    have:=(Ab0.mp h).1
    simpa using this
   rw[Bh (by simpa using s)]at h
   cases m with
   | true=>simp[slot]at h
   | false=>
    simp[slot]at h;subst h
    exact⟨v,Bh (by rw[I.len];exact s),r⟩
  .rw[Ad0 c]at h;obtain⟨u,a,b⟩:=I.bor j d' h;exact⟨u,by rw[Ad0 c];exact a,b⟩
 .obtain⟨c,h⟩:=at_ (Y rfl) h;obtain⟨n,u,a,b⟩:=I.tr j t h;exact⟨n,u,by rw[Ad0 c];exact a,b.mono g (L2.Same.rf _)⟩
theorem bD5:(slot m d).os=false:=by cases m <;> rfl
theorem B7:G K m (G7 i) d ρ (ρ.set i (slot m d)):=⟨λo S b z=>aQ3 bD5 z,λS B σ H o I v r Q q=>q _ (I.set i r)⟩
theorem Y4:Gs K m bS0 [] ρ ρ:=⟨λ_ _ _ z=>z,λS B σ H o I vs r Q q=>by cases r;exact⟨rfl,q σ I⟩⟩
theorem dJ8 (h:∀(o:Nat->List Addr) (S:Addr->Prop) (b:Addr),C9 ρ' o S b->C9 ρ o S b):Same (vw m (C9 ρ o S) H) (vw m (C9 ρ' o S) H):=by
 cases m with
 | false=>exact L2.Same.rf _
 | true=>exact D8 (L2.Same.rf _) λb z _=>h o S b z
theorem F6 (h:G K m g d ρ ρ1)(h':Gs K m gs ds ρ1 ρ'):Gs K m (aH4 g gs) (d::ds) ρ ρ':=⟨λo S b z=>h.1 o S b (h'.1 o S b z),λS B σ H o I vs r Q q=>by
 cases r with
 | cons a b=>exact⟨_,_,rfl,h.2 S B σ H o I _ a _ λw e=>h'.2 S B w H o e _ (b.mono (dJ8 h.1)) _ q⟩⟩
theorem aD1 (h:Gs K m gs ds ρ ρ')(e:ds.length=n:=by rfl):G K m (cL9 K n gs) (.tuple ds) ρ ρ':=⟨h.1,λS B σ H o I v r Q q=>by
 cases r with
 | tup s r=>exact⟨_,_,rfl,D3 aA3 s,by rw[r.length];exact e,h.2 S B σ H o I _ r _ q⟩⟩
theorem A9 {t u:TS}{R:AE}(h:W K t ρ {R with nx:=λρ'=>W K u ρ' R}):W K (dU6 t u) ρ R:=λS B D σ H o I s=>
 h S B {D with nx:=u D} σ H o I ⟨λρ' X e Y z w=>w S B D X e Y z s,s.rt,s.rl,s.bk,s.ct⟩
theorem J5 (h:R.nx ρ):W K dF2 ρ R:=λS B D σ H o I s=>s.nx ρ σ H o I h
theorem cP8 (h:E K m t ρ d)(z:G K m g d ρ ρ')(Y:R.nx ρ'):W K (aL7 t g) ρ R:=λS B D σ H o I s=>
 h S B σ H o I _ λv e X r=>z.2 S B σ e o (I.grow X) v r _ λU w=>s.nx _ U e o w Y
theorem E7 (h:E K true t ρ d)(e:R.nx (ρ.set i (.val d))):W K (aL7 t (G7 i)) ρ R:=cP8 (ρ' := ρ.set i (.val d)) h B7 e
theorem L6 (h:E K true t ρ d)(w:R.rt d):W K (dB7 t) ρ R:=λS B D σ H o I s=>
 h S B σ H o I _ λv e Y r=>s.rt v d e (L2.Same.tr I.base Y) (r.mono (D8 (L2.Same.rf _) λb z _=>.inl z)) w
theorem aS9 (h:EF K t ρ ds)(Y:R.rl ds):W K (dB7 t) ρ R:=λS B D σ H o I s=>
 h S B σ H o I _ λp xs w X n e r=>s.rl p xs ds w (L2.Same.tr I.base X) (O4 I.base n) e (r.mono (D8 (L2.Same.rf _) λb z _=>z.imp .inl id)) Y
theorem bT0 (h:ρ[i]? = some (.own ds))(w:R.rl ds):W K (dB7 (D7 i)) ρ R:=λS B D σ H o I s=>by
 obtain⟨p,hp,a,xs,b,c⟩:=I.own i ds h;exact⟨_,a,s.rl _ xs ds H I.base (I.new i _ h rfl _ (by rw[hp];simp)) b (c.mono (D8 (L2.Same.rf _) λb z _=>z.elim .inl λe=>.inr ⟨i,_,h,rfl,by rw[hp,e];simp⟩)) w⟩
theorem X4 {c:TT}{t u:TS}{b:Bool}{R:AE}(h:T K c ρ b)(h1:b=true->W K t ρ R)(z:b=false->W K u ρ R):W K (cY2 c t u) ρ R:=λS B D σ H o I s=>h S B σ H o I _ λe w=>by
 cases b with
 | true=>exact h1 rfl S B D σ e o (I.grow w) s
 | false=>exact z rfl S B D σ e o (I.grow w) s
theorem W.weak {t:TS}{R R':AE}(h:W K t ρ R)(h1:∀ρ,R.nx ρ->R'.nx ρ)(J:∀d,R.rt d->R'.rt d)(M:∀d,R.rl d->R'.rl d)(N:∀ρ,R.bk ρ->R'.bk ρ)(Q:∀ρ,R.ct ρ->R'.ct ρ):W K t ρ R':=λS B D σ H o I s=>
 h S B D σ H o I ⟨λρ' U z X Y w=>s.nx ρ' U z X Y (h1 _ w),λv d z a b c=>s.rt v d z a b (J _ c),λp xs ds z a b c e w=>s.rl p xs ds z a b c e (M _ w),λρ' U z X Y w=>s.bk ρ' U z X Y (N _ w),λρ' U z X Y w=>s.ct ρ' U z X Y (Q _ w)⟩
def bG6 (o:Nat->List Addr)(i:Nat)(L:List Addr)(j:Nat):List Addr:=if j=i then L else o j
theorem S2:bG6 o i L i=L:=Ae rfl
theorem Q4 (h:i≠j):bG6 o i L j=o j:=Ac λz=>h z.symm
def Holds (K:Frag)(Z H:Hp)(v:V)(x:Sl)(L:List Addr):Prop:=
 (∃ds p xs,x=.own ds/\L=[p]/\v=.ref p/\H p=some (.lst xs)/\Reps K Z xs ds)\/∃t,x=.tr t/\L.Nodup/\Dp K Z H v t L
theorem Holds.os {Z H:Hp}{v:V}{x:Sl}{L:List Addr}(h:Holds K Z H v x L):x.os=true:=by
 rcases h with⟨ds,p,xs,rfl,_⟩ | ⟨t,rfl,_⟩ <;> rfl
def cG8 (ρ:List Sl)(o:Nat->List Addr)(i:Nat)(b:Addr):Prop:=∃y,ρ[i]? = some y/\y.os=true/\b∈o i
theorem Env.put (I:Env K S B H σ ρ o)(i:Nat)(hi:i<ρ.length)(D:Addr->Prop)(hD:∀b,D b->cG8 ρ o i b)
  (F:∀b y,H b=some y->¬D b->H' b=some y) (hL:∀b∈L,cG8 ρ o i b\/H b=none) (hx:Holds K (hid (λb=>C9 ρ o S b\/b∈L) H') H' v x L)
  (nb:(∀b,¬D b)\/∀(j:Nat) (d:PyData),ρ[j]?≠some (Sl.bor d)):Env K S B H' (σ.set i (some v)) (ρ.set i x) (bG6 o i L):=by
 have P:=hx.os
 have at_:∀{j:Nat} {y:Sl},i≠j->(ρ.set i x)[j]? = some y->ρ[j]? = some y:=λ{j y} c h=>by rw[Ad0 c]at h;exact h
 have X:(ρ.set i x)[i]? = some x:=Bh hi
 have sub:∀b,C9 (ρ.set i x) (bG6 o i L) S b->C9 ρ o S b\/b∈L:=λb z=>by
  rcases z with z | ⟨j,y,h,Y,e'⟩
  .exact .inl (.inl z)
  .by_cases c:i=j
   .subst c;rw[S2]at e';exact .inr e'
   .rw[Q4 c]at e';exact .inl (.inr ⟨j,y,at_ c h,Y,e'⟩)
 have N:∀b,cG8 ρ o i b->C9 ρ o S b:=λb ⟨y,h1,U,J⟩=>.inr ⟨i,y,h1,U,J⟩
 have g:Same (hid (C9 ρ o S) H) (hid (C9 (ρ.set i x) (bG6 o i L) S) H'):=λb y q=>by
  obtain⟨a,q⟩:=hid_some.mp q;refine hid_some.mpr ⟨λz=>?_,F b y q λz=>a (N b (hD b z))⟩
  rcases sub b z with z | z
  .exact a z
  .rcases hL b z with z | z
   .exact a (N b z)
   .rw[z]at q;cases q
 have ht:∀a ys,Rd H a (.tup ys)->Rd H' a (.tup ys):=λa ys r=>by
  have n:¬D a:=λz=>by
   obtain⟨zs,e⟩:=I.lists a (N a (hD a z));rcases r with r | ⟨o,r⟩ <;> rw[e]at r <;> replace r:=Ab4 r
   .exact HM.nt r
   .exact HM.nf r
  rcases r with r | ⟨o,r⟩
  .exact .inl (F _ _ r n)
  .exact .inr ⟨o,F _ _ r n⟩
 have far:∀{j:Nat} {y:Sl},i≠j->ρ[j]? = some y->y.os=true->∀b∈o j,¬D b:=λ{j y} c h Y b s z=>by
  obtain⟨w,h1,U,J⟩:=hD b z;exact c (I.inj i j w y h1 h U Y b J s)
 have kept:∀{j:Nat} {y:Sl},i≠j->ρ[j]? = some y->y.os=true->∀b∈o j,H' b=H b:=λ{j y} c h Y b s=>by
  obtain⟨zs,e⟩:=I.lists b (.inr ⟨j,y,h,Y,s⟩);rw[e];exact F _ _ e (far c h Y b s)
 have Q:∀{j:Nat} {y:Sl},i≠j->ρ[j]? = some y->y.os=true->∀b∈o j,b∉L:=λ{j y} c h Y b s z=>by
  rcases hL b z with⟨w,h1,U,J⟩ | z
  .exact c (I.inj i j w y h1 h U Y b J s)
  .obtain⟨zs,e⟩:=I.lists b (.inr ⟨j,y,h,Y,s⟩);rw[z]at e;cases e
 have base:Same B H':=λb y q=>F b y (I.base b y q) λz=>by
  obtain⟨w,h1,U,J⟩:=hD b z;rw[I.new i w h1 U b J]at q;cases q
 refine⟨by simp[I.len],base,I.sl,λj y h Y b s=>?_,λj k y z h h' Y hz b s M=>?_,λj es h=>?_,λj d' h=>?_,λj d' h=>?_,λj t h=>?_⟩
 .by_cases c:i=j
  .subst c;rw[S2]at s;rcases hL b s with⟨w,h1,U,J⟩ | z
   .exact I.new i w h1 U b J
   .exact O4 I.base z
  .rw[Q4 c]at s;exact I.new j y (at_ c h) Y b s
 .by_cases c:i=j
  .subst c;by_cases R:i=k
   .exact R
   .rw[S2]at s;rw[Q4 R]at M;exact absurd s (Q R (at_ R h') hz b M)
  .by_cases R:i=k
   .subst R;rw[S2]at M;rw[Q4 c]at s;exact absurd M (Q c (at_ c h) Y b s)
   .rw[Q4 c]at s;rw[Q4 R]at M;exact I.inj j k y z (at_ c h) (at_ R h') Y hz b s M
 .by_cases c:i=j
  .subst c;rw[X]at h;cases h;rw[S2];rcases hx with⟨ds,p,xs,e,U,J,h4,h5⟩ | ⟨t,e,_⟩
   .cases e
    exact⟨p,U,by rw[Bh (by rw[I.len];exact hi),J],xs,h4,h5.mono (D8 (L2.Same.rf _) λb z _=>sub b z)⟩
   .cases e
  .rw[Q4 c];obtain⟨p,o',a,ys,b,r'⟩:=I.own j es (at_ c h);exact⟨p,o',by rw[Ad0 c];exact a,ys,by rw[kept c (at_ c h) rfl p (by rw[o'];simp)];exact b,r'.mono g⟩
 .by_cases c:i=j
  .subst c;rw[X]at h;cases h;cases P
  .obtain⟨u,a,b⟩:=I.val j d' (at_ c h);exact⟨u,by rw[Ad0 c];exact a,b.mono g⟩
 .by_cases c:i=j
  .subst c;rw[X]at h;cases h;cases P
  .rcases nb with nb | nb
   .obtain⟨u,a,b⟩:=I.bor j d' (at_ c h);exact⟨u,by rw[Ad0 c];exact a,b.mono λb y q=>F b y q (nb b)⟩
   .exact absurd (at_ c h) (nb j d')
 .by_cases c:i=j
  .subst c;rw[X]at h;cases h;rw[S2];rcases hx with⟨ds,p,xs,e,_⟩ | ⟨t',e,U,J⟩
   .cases e
   .cases e
    exact⟨U,v,Bh (by rw[I.len];exact hi),J.mono (D8 (L2.Same.rf _) λb z _=>sub b z) (L2.Same.rf _)⟩
  .rw[Q4 c];obtain⟨n,u,a,b⟩:=I.tr j t (at_ c h);exact⟨n,u,by rw[Ad0 c];exact a,aA7 g ht t (kept c (at_ c h) rfl) b⟩
theorem Env.setF (I:Env K S B H σ ρ o)(i:Nat)(s:Same H H')(n:H p=none)(e:H' p=some (.lst xs))(r:Reps K (hid (λb=>C9 ρ o S b\/b=p) H') xs ds)(hi:i<ρ.length) :
  Env K S B H' (σ.set i (some (.ref p))) (ρ.set i (.own ds)) (bG6 o i [p]):=
 I.put i hi (λ_=>False) (λ_ z=>z.elim) (λb y q _=>s b y q) (λb z=>.inr (by rw[Ad8.mp z];exact n)) (.inl ⟨ds,p,xs,rfl,rfl,rfl,e,r.mono (D8 (L2.Same.rf _) λb z _=>z.imp id λz=>Ad8.mp z)⟩) (.inl λ_ z=>z)
theorem aV4 {α:Type}{l:List α}{i:Nat}{a:α}(h:l[i]? = some a):l.set i a=l:=by
 obtain⟨h1,e⟩:=Ab0.mp h;rw[<- e];exact List.set_getElem_self h1
theorem F9 (h:EF K t ρ ds)(z:R.nx (ρ.set i (.own ds)))(hi:i<ρ.length:=by first | decide | (simp;done) | (simp[LV.sl0];done)):W K (aL7 t (G7 i)) ρ R:=λS B D σ H o I s=>
 h S B σ H o I _ λp xs w Y n e r=>s.nx _ _ w _ (I.setF i Y n e r hi) z
theorem Env.upd (I:Env K S B H σ ρ o)(h:ρ[i]? = some (.own ds))(hp:o i=[p])(r:Reps K (hid (C9 ρ o S) H) xs es)(nb:∀(j:Nat) (d:PyData),ρ[j]?≠some (Sl.bor d)) :
  Env K S B (upd H p (.lst xs)) σ (ρ.set i (.own es)) (bG6 o i [p]):=by
 have hi:i<ρ.length:=(Ab0.mp h).1
 obtain⟨X,e,a,U,b,c⟩:=I.own i ds h;rw[hp]at e;cases e;have w:cG8 ρ o i p:=⟨_,h,rfl,by rw[hp];simp⟩
 have os:C9 ρ o S p:=.inr ⟨i,_,h,rfl,by rw[hp];simp⟩
 have:=I.put (H':=L2.upd H p (.lst xs)) (v:=.ref p) (x:=.own es) (L:=[p]) i hi (λb=>b=p) (λb z=>by rw[z];exact w) (λb y q z=>by rw[B0 z];exact q) (λb z=>.inl (by rw[Ad8.mp z];exact w))
  (.inl ⟨es,p,xs,rfl,rfl,rfl,B3,r.mono λb y q=>by
   obtain⟨s,Y⟩:=hid_some.mp q;refine hid_some.mpr ⟨λz=>s (z.elim id λz=>by rw[Ad8.mp z];exact os),?_⟩
   rw[B0 (λz=>s (by rw[z];exact os))];exact Y⟩) (.inr nb)
 rw[aV4 a]at this;exact this
def M9:List Sl->Bool
 | []=>true
 | .bor _::_=>false
 | _::r=>M9 r
theorem J0:∀{ρ:List Sl},M9 ρ=true->∀(j:Nat) (d:PyData),ρ[j]?≠some (Sl.bor d)
 | [],_,j,d=>by simp
 | .bor _::_,h,_,_=>by cases h
 | .no::r,h,0,d=>by simp
 | .no::r,h,j+1,d=>by simpa using J0 (ρ:=r) h j d
 | .val _::r,h,0,d=>by simp
 | .val _::r,h,j+1,d=>by simpa using J0 (ρ:=r) h j d
 | .own _::r,h,0,d=>by simp
 | .own _::r,h,j+1,d=>by simpa using J0 (ρ:=r) h j d
 | .tr _::r,h,0,d=>by simp
 | .tr _::r,h,j+1,d=>by simpa using J0 (ρ:=r) h j d
theorem K2 (hi:ρ[i]? = some (.own ds))(h:E K true t ρ d)(w:ds.length<sizeLine)(z:R.nx (ρ.set i (.own (ds++[d]))))(nb:M9 ρ=true:=by rfl) :
  W K (bC8 (tBM K "list" aH6 (D7 i) (G1 t V7))) ρ R:=λS B D σ H o I s=>by
 obtain⟨p,hp,a,xs,b,c⟩:=I.own i ds hi;refine⟨_,a,.inl ⟨rfl,xs,SqL.of b⟩,?_⟩;refine h S B σ H o I _ λv Y e r=>?_
 refine⟨_,xs,v,rfl,rfl,e _ _ b,by rw[c.length];exact w,?_⟩
 exact s.nx _ σ _ _ ((I.grow e).upd hi hp ((c.mono (G0 e)).append (.cons r .nil)) (J0 nb)) z
theorem bG3 (hi:ρ[i]? = some (.own ds))(hp:o i=[p]):Same (hid (C9 ρ o S) H) (hid (C9 (ρ.set i (.own es)) (bG6 o i [p]) S) (L2.upd H p (.lst xs))):=λU x q=>by
 obtain⟨s,X⟩:=hid_some.mp q;refine hid_some.mpr ⟨λz=>s ?_,?_⟩
 .rcases z with z | ⟨k,y,w,Y,e'⟩
  .exact .inl z
  .by_cases e:i=k
   .subst e;rw[S2,<- hp]at e';exact .inr ⟨i,_,hi,rfl,e'⟩
   .rw[Ad0 e]at w;rw[Q4 e]at e';exact .inr ⟨k,y,w,Y,e'⟩
 .rw[B0 (λz=>s (.inr ⟨i,_,hi,rfl,by rw[hp,z];simp⟩))];exact X
theorem dR1 (hi:ρ[i]? = some (.own (ds++[d])))(X:R.nx ((ρ.set i (.own ds)).set j (.val d)))(nb:M9 ρ=true:=by rfl) :
  W K (aL7 (dK3 K "list" dH5 (D7 i)) (G7 j)) ρ R:=λS B D σ H o I s=>by
 obtain⟨p,hp,a,xs,b,c⟩:=I.own i _ hi;have Y:=c.length;obtain⟨y,h1,z⟩:=c.get' (i:=ds.length) (d:=d) (by simp)
 refine⟨_,a,.inl ⟨rfl,xs,SqL.of b⟩,_,xs,y,rfl,rfl,b,?_,?_⟩
 .rw[Y];simpa using h1
 .have e:=c.dropLast
  rw[List.dropLast_concat]at e;have w:=I.upd hi hp e (J0 nb);refine s.nx _ _ _ _ (Env.set (m:=true) w j (z.mono ?_)) X;exact bG3 hi hp
theorem N0 {wi:TI}{g:TG}{tb:TS}{R:AE}(hi:I K true wi ρ ds)(P:Nat->List Sl->Prop)(h0:P 0 ρ)
  (turn:∀i d ρ',ds[i]? = some d->P i ρ'->∃ρ'',G K true g d ρ' ρ''/\W K tb ρ'' {R with nx:=P (i+1),ct:=P (i+1),bk:=R.nx}) (hn:∀ρ',P ds.length ρ'->R.nx ρ'):W K (dN1 wi g tb) ρ R:=λS B D σ H o I0 s=>
 hi S B σ H o I0 _ λJ H1 s1 wk=>by
  obtain⟨I1,U⟩:=(I0.grow s1).rebase;generalize hB:hid (aP2 ρ o) H1=B' at I1 U;have sz:Same (hid (C9 ρ o S) H1) B':=λb x q=>by
   obtain⟨q1,q2⟩:=hid_some.mp q;rw[<- hB];exact hid_some.mpr ⟨λz=>q1 (.inr z),q2⟩
  refine⟨λi m σ' H'=>i<=ds.length/\m=ds.length-i/\∃ρ' N,Env K S B' H' σ' ρ' N/\P i ρ',⟨_,Ci _,rfl,ρ,o,I1,h0⟩,?_⟩
  rintro i k σ' H' ⟨hl,rfl,ρ',N,Y,p⟩;have zH:=L2.Same.tr sz Y.base;by_cases c:i=ds.length
  .subst c;exact .inl ⟨wk.stop _ _ zH (Aa7 _),s.nx ρ' σ' H' N ⟨Y.len,L2.Same.tr U Y.base,λb z=>(I0.sl b z),λi ds z hz b F=>O4 U (Y.new i ds z hz b F),Y.inj,Y.own,Y.val,Y.bor,Y.tr⟩ (hn ρ' p)⟩
  .have hlt:i<ds.length:=by lia
   have hd:ds[i]? = some ds[i]:=Aa2 hlt
   obtain⟨ρ'',hg,F⟩:=turn i ds[i] ρ' hd p;refine .inr ⟨wk.go _ _ _ zH hd,λσ2 H2=>∃ρ2 o2,Env K S B' H2 σ2 ρ2 o2/\P (i+1) ρ2,λσ2 H2 ⟨ρ2,o2,I2,p2⟩=>⟨_,by lia,hlt,rfl,ρ2,o2,I2,p2⟩,λx Q hy=>?_⟩
   obtain⟨s2,hx⟩:=wk.yld _ _ _ _ _ zH hd hy;have rx:=hx (C9 ρ' N S) λb z=>by
    obtain⟨ys,y⟩:=Y.lists b z;refine⟨?_,by rw[y];simp⟩
    rcases z with z | ⟨j,es,h',hy,e'⟩
    .unfold vw hid;exact Ae (.inl z)
    .exact O4 sz (Y.new j es h' hy b e')
   refine hg.2 S B' σ' Q N (Y.grow s2) x rx _ λσ2 I2=>F S B' _ σ2 Q N I2 ⟨λρ3 σ3 M o3 X w=>⟨ρ3,o3,X,w⟩,λv d M a b w=>s.rt v d M (L2.Same.tr U a) b w,λp xs es M a b c e w=>s.rl p xs es M (L2.Same.tr U a) (O4 U b) c e w,
    λρ3 σ3 M o3 X w=>s.nx ρ3 σ3 M o3 ⟨X.len,L2.Same.tr U X.base,λb z=>(I0.sl b z),λi ds z hz b F=>O4 U (X.new i ds z hz b F),X.inj,X.own,X.val,X.bor,X.tr⟩ w,λρ3 σ3 M o3 X w=>⟨ρ3,o3,X,w⟩⟩
theorem aB0 {c:TT}{tb:TS}{R:AE}(P:Nat->List Sl->Prop)(h0:∃k,P k ρ)
  (turn:∀k ρ',P k ρ'->∃b,T K c ρ' b/\if b=true then W K tb ρ' {R with nx:=λρ2=>∃k',k'<k/\P k' ρ2,ct:=λρ2=>∃k',k'<k/\P k' ρ2,bk:=R.nx} else R.nx ρ'):W K (cK8 c tb) ρ R:=λS B D σ H o I0 s=>by
 obtain⟨k0,p0⟩:=h0;refine⟨λk X J=>∃ρ' Y,Env K S B J X ρ' Y/\P k ρ',⟨k0,ρ,o,I0,p0⟩,?_⟩
 rintro k X J ⟨ρ',Y,M,p⟩;obtain⟨b,hc,U⟩:=turn k ρ' p;refine hc S B X J Y M _ λH1 s1=>?_
 cases b with
 | true=>
  rw[Ae rfl]at U ⊢;refine⟨λσ2 H2=>∃k',k'<k/\∃ρ2 o2,Env K S B H2 σ2 ρ2 o2/\P k' ρ2,λσ2 H2 ⟨k',e,z⟩=>⟨k',e,z⟩,?_⟩
  exact U S B _ X H1 Y (M.grow s1) ⟨λF σ3 H3 Q N ⟨k',e,w⟩=>⟨k',e,F,Q,N,w⟩,s.rt,s.rl,s.nx,λF σ3 H3 Q N ⟨k',e,w⟩=>⟨k',e,F,Q,N,w⟩⟩
 | false=>
  rw[Ac Ai]at U ⊢;exact s.nx ρ' X H1 Y (M.grow s1) U
def cap:Sl->Sl
 | .own ds=>.bor (.list ds)
 | .tr t=>.bor t.data
 | x=>x
def slC (ρ:List Sl)(n:Nat)(is:List Nat):List Sl:=List.replicate n .no++is.map λi=>cap ((ρ[i]?).getD .no)
theorem bI2 (h:(slC ρ n is)[j]? = some x)(w:x≠.no):n<=j/\∃i y,is[j-n]? = some i/\ρ[i]? = some y/\cap y=x:=by
 unfold slC at h;by_cases c:j<n
 .rw[Bl (by simpa using c),Dg,Ae c]at h
  exact absurd (Ab4 h).symm w
 .rw[Bp (by simpa using c),Ds,Aa9]at h
  refine⟨by lia,?_⟩
  cases e:is[j-n]? with
  | none=>rw[e]at h;cases h
  | some i=>
   rw[e]at h;have h:cap ((ρ[i]?).getD .no)=x:=Ab4 h;cases e':ρ[i]? with
   | none=>rw[e']at h;exact absurd h.symm w
   | some y=>rw[e']at h;exact⟨i,y,rfl,e',h⟩
theorem dB4 {n:Nat}{is:List Nat}{j:Nat}{x:Sl}(h:(slC ρ n is)[j]? = some x):x.os=false:=by
 cases x with
 | own ds=>
  obtain⟨_,i,y,_,_,e⟩:=bI2 h (by simp)
  cases y <;> simp[cap]at e
 | tr t=>
  obtain⟨_,i,y,_,_,e⟩:=bI2 h (by simp)
  cases y <;> simp[cap]at e
 | _=>rfl
theorem aL5 {n:Nat}{is:List Nat}{j:Nat}{x:Sl}{P:Prop}(h:(slC ρ n is)[j]? = some x)(e:x.os=true):P:=by rw[dB4 h]at e;cases e
theorem Env.comp (I:Env K S B H σ ρ o)(n:Nat)(is:List Nat):Env K (C9 ρ o S) H H (stC n is σ) (slC ρ n is) o:=by
 have st:∀(j:Nat) (i:Nat) v,n<=j->is[j-n]? = some i->σ[i]? = some v->(stC n is σ)[j]? = some v:=λj i v w hi X=>by
  unfold stC;rw[Bp (by simpa using w),Ds,Aa9,hi]
  simp[X]
 have g:Same (hid (C9 ρ o S) H) (hid (C9 (slC ρ n is) o (C9 ρ o S)) H):=D8 (L2.Same.rf _) λb z _=>by
  rcases z with z | ⟨j,es,h,s,_⟩
  .exact z
  .exact aL5 h s
 refine⟨by simp[stC,slC],L2.Same.rf _,I.lists,λj es h Y=>aL5 h Y,λj k es fs h _ Y=>aL5 h Y,λj es h=>aL5 h rfl,λj d h=>?_,λj d h=>?_,λj t h=>aL5 h rfl⟩
 .obtain⟨w,i,y,hi,s,e⟩:=bI2 h (by simp)
  cases y with
  | val d'=>
   cases e
   obtain⟨v,a,b⟩:=I.val i d s;exact⟨v,st j i _ w hi a,b.mono g⟩
  | _=>simp[cap]at e
 .obtain⟨w,i,y,hi,s,e⟩:=bI2 h (by simp)
  cases y with
  | bor d'=>
   cases e
   obtain⟨v,a,b⟩:=I.bor i d s;exact⟨v,st j i _ w hi a,b⟩
  | own es=>
   cases e
   obtain⟨p,hp,a,xs,b,c⟩:=I.own i es s;exact⟨_,st j i _ w hi a,.lst (SqL.of b) (c.mono H9)⟩
  | tr t=>
   cases e
   obtain⟨_,v,a,b⟩:=I.tr i t s;exact⟨_,st j i _ w hi a,bG0 H9 (λ_ _ z=>z) H9 t (λ_ _=>rfl) b⟩
  | _=>simp[cap]at e
def aY8 (K:Frag)(m:Bool)(ρ:List Sl)(g:TG)(tt:TT)(te:TE)(d:PyData)(r:Option PyData):Prop:=
 ∃ρ',G K m g d ρ ρ'/\match r with
  | none=>T K tt ρ' false
  | some y=>T K tt ρ' true/\E K true te ρ' y
theorem M4 (f:PyData->Option PyData)(hi:I K m wi ρ ds)(hl:ds.length<sizeLine)(body:∀d∈ds,aY8 K m (slC ρ n is) g tt te d (f d)):EF K (bN5 wi n is g tt te) ρ (ds.filterMap f):=λS B σ H o I0 Q q=>
 hi S B σ H o I0 _ λJ H1 F wk=>by
  have IC:=(I0.grow F).comp n is
  generalize hS:C9 ρ o S=S' at IC wk q;have lists:∀b,S' b->∃u:HM,H1 b=some u.ho:=by rw[<- hS];exact(I0.grow F).lists
  refine⟨λi k ys N=>i<=ds.length/\k=ds.length-i/\Same H1 N/\ys.length<=i/\Reps K (hid S' N) ys ((ds.take i).filterMap f),⟨_,Ci _,rfl,L2.Same.rf _,Aa7 _,by simpa using Reps.nil⟩,?_⟩
  rintro i k ys N ⟨hil,rfl,s,hy,r⟩;refine⟨by lia,?_⟩
  have zH:Same (vw m S' H1) N:=L2.Same.tr aA3 s
  by_cases c:i=ds.length
  .subst c;refine .inl ⟨wk.stop _ _ zH (Aa7 _),λD hD=>?_⟩
   rw[Cf]at r;exact q D ys _ (L2.Same.tr (L2.Same.tr F s) (D1 hD)) (O4 (L2.Same.tr F s) hD) B3 (aL9 (λb z=>by obtain⟨xs,e⟩:=lists b z;exact⟨xs,s _ _ e⟩) hD r)
  .have w:i<ds.length:=by lia
   have hd:ds[i]? = some ds[i]:=Aa2 w
   have take:(ds.take (i+1)).filterMap f=(ds.take i).filterMap f++(f ds[i]).toList:=by
    rw[Br w,List.filterMap_append];cases R:f ds[i] <;> simp[Ao,R]
   obtain⟨ρ',hg,X⟩:=body ds[i] (Cr w);refine .inr ⟨wk.go _ _ _ zH hd,λx Y hx=>?_⟩
   obtain⟨P,hr⟩:=wk.yld _ _ _ _ _ zH hd hx;have I3:Env K S' H1 Y (stC n is σ) (slC ρ n is) o:=IC.grow (L2.Same.tr s P);have eqS:∀b,C9 (slC ρ n is) o S' b->S' b:=λb z=>by
    rcases z with z | ⟨j,es,h,hy,_⟩
    .exact z
    .exact aL5 h hy
   have rx:Rep K (vw m (C9 (slC ρ n is) o S') Y) x ds[i]:=by
    cases m with
    | false=>
     have:=hr (λ_=>False) λb z=>z.elim
     rw[cR7]at this;exact this
    | true=>
     refine hr _ λb z=>?_
     have z':=eqS b z
     obtain⟨xs,e⟩:=lists b z';exact⟨by unfold vw hid;exact Ae z',by rw[s _ _ e];simp⟩
   refine hg.2 S' H1 _ Y o I3 x rx _ λσ4 I4=>?_
   cases R:f ds[i] with
   | none=>
    rw[R]at X take;refine X S' H1 σ4 Y o I4 _ λH5 M=>?_
    rw[Ac Ai];refine⟨_,by lia,w,rfl,L2.Same.tr s (L2.Same.tr P M),by lia,?_⟩
    rw[take];simpa using r.mono (G0 (L2.Same.tr P M))
   | some y=>
    rw[R]at X take;refine X.1 S' H1 σ4 Y o I4 _ λH5 M=>?_
    rw[Ae rfl];refine X.2 S' H1 σ4 H5 o (I4.grow M) _ λv H6 s6 rv=>?_
    have U:=L2.Same.tr P (L2.Same.tr M s6)
    refine⟨_,by lia,w,rfl,L2.Same.tr s U,by simp;lia,?_⟩
    rw[take];refine(r.mono (G0 U)).append (.cons (rv.mono (D8 (L2.Same.rf _) λb z _=>.inl z)) .nil)
theorem y0:T K aN0 ρ true:=λS B σ H o I Q q=>q H (L2.Same.rf _)
def sl0 (n:Nat)(ds:List PyData):List Sl:=ds.map .val++List.replicate (n-ds.length) .no
theorem env0 (U:∀b,S b->∃u:HM,H b=some u.ho)(r:Reps K (hid S H) vs ds):Env K S H H (L2.Y3 N vs) (sl0 N.length ds) (λ_=>[]):=by
 have s:∀(j:Nat) (x:Sl),(sl0 N.length ds)[j]? = some x->x=.no\/∃d,ds[j]? = some d/\x=.val d:=λj x h=>by
  unfold sl0 at h;by_cases c:j<ds.length
  .rw[Bl (by simpa using c),Aa9,Aa2 c]at h
   exact .inr ⟨_,Aa2 c,(Ab4 h).symm⟩
  .rw[Bp (by simpa using c),Dg]at h
   split at h
   .exact .inl (Ab4 h).symm
   .cases h
 have w:∀{P:Prop} (j:Nat) (x:Sl),(sl0 N.length ds)[j]? = some x->x.os=true->P:=λj x h Y=>by
  rcases s j _ h with e | ⟨d,_,e⟩ <;> rw[e]at Y <;> cases Y
 have g:Same (hid S H) (hid (C9 (sl0 N.length ds) (λ_=>[]) S) H):=D8 (L2.Same.rf _) λb z _=>by
  rcases z with z | ⟨j,es,h,J,_⟩
  .exact z
  .exact w j es h J
 refine⟨?_,L2.Same.rf _,U,λj es h Y=>w j es h Y,λj k es fs h _ Y=>w j es h Y,λj es h=>w j _ h rfl,λj d h=>?_,λj d h=>?_,λj es h=>w j _ h rfl⟩
 .unfold L2.Y3 sl0;simp[r.length]
 .rcases s j _ h with e | ⟨d',X,e⟩
  .cases e
  .cases e
   obtain⟨v,a,b⟩:=r.get' X;refine⟨v,?_,b.mono g⟩;unfold L2.Y3
   have:=(Ab0.mp a).1
   rw[Bl (by simpa using this),Aa9,a];rfl
 .rcases s j _ h with e | ⟨d',_,e⟩ <;> cases e
theorem K8 {t:TS}{N:List Str}{vs:List V}{S:Addr->Prop}{H:Hp}{Q:VK}(X:∀b,S b->∃u:HM,H b=some u.ho)(r:Reps K (hid S H) vs ds)(w:W K t (sl0 N.length ds) {nx:=λ_=>d=.none,rt:=λe=>e=d})
  (k:∀v H',Same H H'->Rep K (hid S H') v d->Q v H'):t {nx:=λ_ H'=>Q .non H',rt:=Q} (L2.Y3 N vs) H:=
 w S H _ _ H _ (env0 X r) ⟨λρ' M H' J Y z=>k _ H' Y.base (by rw[z];exact .non),λv e H' s U z=>k v H' s (by rw[<- z];exact U),λ_ _ _ _ _ _ _ _ z=>z.elim,λ_ _ _ _ _ z=>z.elim,λ_ _ _ _ _ z=>z.elim⟩
theorem aD7 {t:TS}{N:List Str}{vs:List V}{S:Addr->Prop}{H:Hp}{Q:VK}(U:∀b,S b->∃u:HM,H b=some u.ho)(r:Reps K (hid S H) vs ds)(w:W K t (sl0 N.length ds) {nx:=λ_=>False,rl:=λe=>e=es})
  (k:∀p xs H',Same H H'->H p=none->H' p=some (.lst xs)->Reps K (hid (λb=>S b\/b=p) H') xs es->Q (.ref p) H'):t {nx:=λ_ H'=>Q .non H',rt:=Q} (L2.Y3 N vs) H:=
 w S H _ _ H _ (env0 U r) ⟨λρ' R H' M J z=>z.elim,λv e H' s Y z=>z.elim,λp xs X H' s n e Y z=>k p xs H' s n e (by rw[<- z];exact Y),λ_ _ _ _ _ z=>z.elim,λ_ _ _ _ _ z=>z.elim⟩
end
end LV
namespace L2
open PySem PySem.Spec PyProof.Rows
section
variable {X:Cx}
def CMulB (i j:Int):Prop:=i.natAbs<2^512/\j.natAbs<2^512
theorem cD1 (h:k.natAbs<2^512):Builtin.Int.intBits k<=2^20:=by
 unfold Builtin.Int.intBits;split
 .exact Ci _
 .have:k.natAbs.log2<512:=by
   rcases Nat.eq_zero_or_pos k.natAbs with e | hp
   .rw[e];decide
   .exact(Nat.log2_lt (Nat.ne_of_gt hp)).mpr h
  lia
theorem CMulB.ok {i j:Int}(h:CMulB i j):IntMulOk i j:=.of_bits (cD1 h.1) (cD1 h.2)
theorem aG5:OpR X (binaryOp .Mult) (rI CMulB λi j=>.int (i*j)):=opI λ_ _ _ _ _ _ _ e q=>mul_int q e.ok
def bN8:List String:=["int", "bool", "str", "list", "tuple"]
def dG0 (K:Frag)(H:Hp)(T:String):V->Bool->Prop
 | .int _,b=>b=(T == "int")
 | .bl _,b=>b=(T == "int" || T == "bool")
 | .str _,b=>b=(T == "str")
 | .non,b=>b=false
 | .ref p,b=>(∃xs,SqL K H p xs/\b=(T == "list"))\/∃xs,SqT K H p xs/\b=(T == "tuple")
 | _,_=>False
theorem J4 (h:T∈bN8):typeOf (.type T)=pure (.type "type"):=by
 simp only[bN8,Aa1,Ac2,or_false]at h;rcases h with rfl | rfl | rfl | rfl | rfl
 .exact meta_int
 .exact meta_bool
 .exact meta_str
 .exact meta_list
 .exact meta_tuple
theorem aL8 (h:T∈bN8)(z:s.TypeIs x Tx)(e:isSubtype (.type Tx) (.type T)=pure true)(q:Q (.bool true) s) :
  wpAny (model P w) A (call (.builtin "isinstance") [x,.type T]) Q E s:=Bo (isinstance_true (J4 h) e) ⟨z,q⟩
theorem cQ5:P6 X (.builtin "isinstance") (λxs H Q=>∃x T b,xs=[x,.ty T]/\T∈bN8/\dG0 X.K H T x b/\Q (.bl b) H):=by
 intro R s σ H xs us Q I r h;obtain⟨x,T,b,rfl,w,J,q⟩:=h;cases r with
 | cons M D=>
  cases D with
  | cons F B=>
   cases B;cases F
   have U:EP X R σ Q (.bool b) s:=⟨.bl b,H,I,rfl,q⟩
   have Y:EP X R σ Q (.bool b) {s with toks:=s.toks+1}:=⟨.bl b,H,I.tok _,rfl,q⟩
   have m:=w
   simp only[bN8,Aa1,Ac2,or_false]at m;cases x with
   | int i=>
    obtain⟨t,rfl⟩:=M;cases J;rcases m with rfl | rfl | rfl | rfl | rfl
    .exact aL8 w (typeIs_int _ _ _) (by rw[As];kernel_rfl) U
    all_goals exact Bo (isinstance_false_int (by decide) (J4 w) (by rw[As];kernel_rfl)) Y
   | bl k=>
    cases M
    cases J
    rcases m with rfl | rfl | rfl | rfl | rfl
    .exact aL8 w (PySem.typeIs_bool _ _) (by rw[As];kernel_rfl) U
    .exact aL8 w (PySem.typeIs_bool _ _) (by rw[As];kernel_rfl) U
    all_goals exact Bo (isinstance_false_bool (by decide) (J4 w) (by rw[As];kernel_rfl)) Y
   | str z=>
    obtain⟨t,rfl⟩:=M;cases J;rcases m with rfl | rfl | rfl | rfl | rfl
    .exact Bo (isinstance_false_str (by decide) (J4 w) (by rw[As];kernel_rfl)) Y
    .exact Bo (isinstance_false_str (by decide) (J4 w) (by rw[As];kernel_rfl)) Y
    .exact aL8 w (typeIs_str _ _ _) (by rw[As];kernel_rfl) U
    all_goals exact Bo (isinstance_false_str (by decide) (J4 w) (by rw[As];kernel_rfl)) Y
   | non=>
    cases M
    cases J
    rcases m with rfl | rfl | rfl | rfl | rfl
    all_goals exact Bo (isinstance_false_none (by decide) (J4 w) (by rw[As];kernel_rfl)) Y
   | ref p=>
    cases M
    rcases J with⟨ys,N,rfl⟩ | ⟨ys,N,rfl⟩
    .obtain⟨its,P,⟨o,n,e,c,_,_⟩,_⟩:=I.list N;rcases m with rfl | rfl | rfl | rfl | rfl
     .exact Bo (isinstance_false_list (by decide) (J4 w) (by rw[As];kernel_rfl)) ⟨⟨o,e,c⟩,Y⟩
     .exact Bo (isinstance_false_list (by decide) (J4 w) (by rw[As];kernel_rfl)) ⟨⟨o,e,c⟩,Y⟩
     .exact Bo (isinstance_false_list (by decide) (J4 w) (by rw[As];kernel_rfl)) ⟨⟨o,e,c⟩,Y⟩
     .exact aL8 w (⟨o,e,c⟩:s.TypeIs (.ref p) _) (by rw[As];kernel_rfl) U
     .exact Bo (isinstance_false_list (by decide) (J4 w) (by rw[As];kernel_rfl)) ⟨⟨o,e,c⟩,Y⟩
    .obtain⟨its,P,⟨o,e,c,n,d⟩,_⟩:=I.tuple N;rcases m with rfl | rfl | rfl | rfl | rfl
     .exact Bo (isinstance_false_tuple (by decide) (J4 w) (by rw[As];kernel_rfl)) ⟨⟨o,e,c⟩,Y⟩
     .exact Bo (isinstance_false_tuple (by decide) (J4 w) (by rw[As];kernel_rfl)) ⟨⟨o,e,c⟩,Y⟩
     .exact Bo (isinstance_false_tuple (by decide) (J4 w) (by rw[As];kernel_rfl)) ⟨⟨o,e,c⟩,Y⟩
     .exact Bo (isinstance_false_tuple (by decide) (J4 w) (by rw[As];kernel_rfl)) ⟨⟨o,e,c⟩,Y⟩
     .exact aL8 w (⟨o,e,c⟩:s.TypeIs (.ref p) _) (by rw[As];kernel_rfl) U
   | _=>exact J.elim
end
theorem cK5 (w:Gl X x)(z:X.mg x=none)(m:bootBuiltins x=some (.type T))(s:x≠"__name__" := by decide)(e:(x==("__debug__" : Str))=false:=by decide):PE X (.Name x pos) (tC (.ty T)):=cY9 (v:=.ty T) w z m rfl s e
theorem bG9:∀v (σ:St) H Q Q',(∀σ' H',Q σ' H'->Q' σ' H')->G7 i v σ H Q->G7 i v σ H Q':=λ_ _ _ _ _ h q=>h _ _ q
theorem bB1:∀v (σ:St) H Q Q',(∀σ' H',Q σ' H'->Q' σ' H')->bS0 v σ H Q->bS0 v σ H Q':=λ_ _ _ _ _ h q=>⟨q.1,h _ _ q.2⟩
theorem bR3 (a:∀v (σ:St) H Q Q',(∀σ' H',Q σ' H'->Q' σ' H')->t v σ H Q->t v σ H Q')(b:∀v (σ:St) H Q Q',(∀σ' H',Q σ' H'->Q' σ' H')->u v σ H Q->u v σ H Q') :
  ∀v (σ:St) H Q Q',(∀σ' H',Q σ' H'->Q' σ' H')->aH4 t u v σ H Q->aH4 t u v σ H Q':=λ_ _ _ _ _ h ⟨v,r,e,q⟩=>⟨v,r,e,a _ _ _ _ _ (λ_ _ z=>b _ _ _ _ _ h z) q⟩
theorem dV6 {K:Frag}{i j k n:Nat}(h:i<n)(h':j<n):aW6 n (cL9 K k (aH4 (G7 i) (aH4 (G7 j) bS0))):=
 dH4 (cD4 bG9 (bR3 bG9 bB1) (L5 h) (cD4 bG9 bB1 (L5 h') dN4))
def AllP {α:Type}(p:α->Prop):List α->Prop
 | []=>True
 | a::l=>p a/\AllP p l
theorem AllP.mem:∀{l:List α},AllP p l->∀a∈l,p a
 | _::_,h,a,ha=>(Aa1.mp ha).elim (λe=>e▸h.1) λz=>AllP.mem h.2 a z
theorem V4:∀{l:List (Str×β)},l.lookup x=some v->(x,v)∈l
 | [],h=>by cases h
 | (y,u)::l,h=>by
  rw[List.lookup_cons]at h;by_cases e:x==y
  .rw[e]at h;have e':x=y:=eq_of_beq e;cases h;subst e';exact Aj
  .have e1:(x==y)=false:=by simpa using e
   rw[e1]at h;exact Ad4 _ (V4 h)
theorem CScope.of (clos:closureFor scope X.env=pure cl)(kind:scope.kind=.function)
  (z:scope.names.all (λy=>y.2 != .cell&&(y.2 != .local||scope.names.lookup y.1==some .local))=true) (m:AllP (λp=>X.env.cells.lookup p.1=some p.2) cl)
  (Y:(relabel scope X.env).names.all (λy=>(y.2 != .cell&&y.2 != .free)||(cl.lookup y.1).isSome)=true) (U:N'=T++is.map λ(i:Nat)=>((X.N[i]?).getD Str.empty:Str))
  (J:is.all (λi=>decide (i<X.N.length))=true) (M:AllP (λi=>∃x,X.N[i]? = some x/\((relabel scope X.env).names.lookup x=some .cell\/(relabel scope X.env).names.lookup x=some .free)/\(X.env.kindOf x=some .cell\/X.env.kindOf x=some .free)) is):CScope X scope cl T is N' where
 clos:=clos
 cell:=λy w e=>by
  have:=Ac9.mp z y w
  rw[e]at this;simp at this
 kind:=kind
 names:=λy w e=>by
  have:=Ac9.mp z y w
  rw[e]at this;simp at this;exact this
 cap:=λx c h=>m.mem (x,c) (V4 h)
 has:=λx h=>by
  have s:∀k,(relabel scope X.env).names.lookup x=some k->k=.cell\/k=.free->∃c,cl.lookup x=some c:=λk e Q=>by
   have:=Ac9.mp Y (x,k) (V4 e)
   rcases Q with rfl | rfl <;> exact Option.isSome_iff_exists.mp this
  rcases h with h | h
  .exact s _ h (.inl rfl)
  .exact s _ h (.inr rfl)
 N:=U
 lt:=λi hi=>Ax (Ac9.mp J i hi)
 capt:=λi hi x e=>by
  obtain⟨y,e',h1,R⟩:=M.mem i hi;rw[e]at e';cases e';exact⟨h1,R⟩
section
variable {X:Cx}
theorem ixK (K:Frag)(h:X.K=K:=by rfl):IxR X (rIx K):=h▸C2
theorem aZ3 (K:Frag)(h:X.K=K:=by rfl):P6 X (.builtin "len") (λxs H Q=>∃p ys,xs=[.ref p]/\(SqL K H p ys\/SqT K H p ys)/\Q (.int ys.length) H):=h▸K3
theorem dO1 (K:Frag)(h:X.K=K:=by rfl):P6 X (.builtin "isinstance") (λxs H Q=>∃x T b,xs=[x,.ty T]/\T∈bN8/\dG0 K H T x b/\Q (.bl b) H):=h▸cQ5
theorem dI9 (K:Frag)(h:X.K=K:=by rfl):SlR X (dA7 K):=h▸bI4
theorem bR5 (K:Frag)(h:X.K=K:=by rfl):P6 X (.type "tuple") (λxs H Q=>∃p ys,xs=[.ref p]/\((SqL K H p ys/\∀l,H l=none->Q (.ref l) (upd H l (.tup ys)))\/(SqT K H p ys/\Q (.ref p) H))):=h▸O6
theorem dS6 (K:Frag)(h:X.K=K:=by rfl):P6 X (.type "list") (λxs H Q=>∃p ys,xs=[.ref p]/\(SqL K H p ys\/SqT K H p ys)/\∀l,H l=none->Q (.ref l) (upd H l (.lst ys))):=h▸bI1
end
end L2
namespace LV
open PySem L2
section
variable {K:Frag}{ρ ρ' ρ1:List Sl}{m m':Bool}{t ta tb tc:TE}{d d':PyData}{ds es:List PyData}
theorem aD5 (e:E K false ta ρ (.int i))(w:E K false tb ρ (.int j)):E K m (tOp rEq ta tb) ρ (.bool (decide (i=j))):=
 bM6 e w λH Q q=>⟨rfl,by
  have:decide (V.int i=V.int j)=decide (i=j):=by simp
  rw[this];exact q _ λ_=>.bl _⟩
theorem dD3 (e:E K false ta ρ (.int i))(w:E K false tb ρ (.int j)):E K m (tOp rNe ta tb) ρ (.bool (!decide (i=j))):=
 bM6 e w λH Q q=>⟨rfl,by
  have:decide (V.int i=V.int j)=decide (i=j):=by simp
  rw[this];exact q _ λ_=>.bl _⟩
theorem aO6 (e:E K false ta ρ (.int i)):E K m (tUn (rU λi=>.int (-i)) ta) ρ (.int (-i)):=E.bor (E.imm (m:=false) λS B σ H o I Q q=>e S B σ H o I _ λv H1 w r=>by
 cases r
 exact⟨i,rfl,q _ H1 w (.int _)⟩)
theorem cS0 {r:List V->Hp->VK->Prop}{t:TA}(e:A K false t ρ ds)(hr:∀(H:Hp) (vs:List V) (Q:VK),Reps K H vs ds->(∀v,(∀H,Rep K H v d)->Q v H)->r vs H Q):E K m (tCB r t) ρ d:=λS B σ H o I Q q=>
 e S B σ H o I _ λvs H1 z rs=>hr H1 vs Q rs λv w=>q v H1 z (w _)
theorem S8 {t:TA}(e:A K false t ρ [d])(h:sq d=some ds:=by rfl):E K m (tCB (λxs H Q=>∃p ys,xs=[.ref p]/\(SqL K H p ys\/SqT K H p ys)/\Q (.int ys.length) H) t) ρ (.int ds.length):=cS0 e λH vs Q r q=>by
 cases r with
 | cons a b=>
  cases b
  cases a with
  | lst s r=>cases h;exact⟨_,_,rfl,.inl s,by rw[r.length];exact q _ λ_=>.int _⟩
  | tup s r=>cases h;exact⟨_,_,rfl,.inr s,by rw[r.length];exact q _ λ_=>.int _⟩
  | _=>cases h
theorem bE0 {t:TA}{b:Bool}(e:A K false t ρ [.bool b]):E K m (tCB (λxs H Q=>(∃i,xs=[.int i]/\Q (.int i) H)\/∃k,xs=[.bl k]/\Q (.int (if k then 1 else 0)) H) t) ρ (.int (if b then 1 else 0)):=cS0 e λH vs Q r q=>by
 cases r with
 | cons a c=>
  cases c;cases a
  exact .inr ⟨b,rfl,q _ λ_=>.int _⟩
def dR7 (T:String):PyData->Bool
 | .int _=>T == "int"
 | .bool _=>T == "int" || T == "bool"
 | .str _=>T == "str"
 | .list _=>T == "list"
 | .tuple _=>T == "tuple"
 | _=>false
def xNo:PyData->Bool
 | .dict _=>false
 | _=>true
theorem cK1 {T:String}(Y:E K false ta ρ d)(z:T∈bN8:=by decide)(w:xNo d=true:=by first | rfl | assumption):E K m (tCB (λxs H Q=>∃x T b,xs=[x,.ty T]/\T∈bN8/\dG0 K H T x b/\Q (.bl b) H) (G1 ta (G1 (tC (.ty T)) V7))) ρ (.bool (dR7 T d)):=E.bor (E.imm (m:=false) λS B σ H o I Q q=>Y S B σ H o I _ λv H1 X r=>by
 refine⟨v,T,dR7 T d,rfl,z,?_,q _ H1 X (.bl _)⟩;cases r with
 | lst s r=>exact .inl ⟨_,s,rfl⟩
 | tup s r=>exact .inr ⟨_,s,rfl⟩
 | exc e=>exact absurd w (by simp[xNo])
 | ptr=>exact absurd w (by simp[xNo])
 | adr=>exact absurd w (by simp[xNo])
 | dic _ _ _=>exact absurd w (by simp[xNo])
 | _=>rfl)
theorem dC0 {r r':R2}{i j k:Int}{g g':Int->Int->Bool}(X:E K false ta ρ (.int i))(U:E K false tb ρ (.int j))(J:E K false tc ρ (.int k)):E K m (cL0 (rI0 λi j=>.bl (g i j)) (rI0 λi j=>.bl (g' i j)) ta tb tc) ρ (.bool (g i j&&g' j k)):=
 E.bor (E.imm (m:=false) λS B σ H o I Q q=>X S B σ H o I _ λv H1 e M=>U S B σ H1 o (I.grow e) _ λu s z N=>by
  cases M;cases N
  refine⟨i,j,rfl,rfl,g i j,rfl,?_⟩;cases h:g i j with
  | false=>rw[Ac Ai];exact q _ s (L2.Same.tr e z) (by rw[h];exact .bl _)
  | true=>
   rw[Ae rfl];refine J S B σ s o ((I.grow e).grow z) _ λw Y D R=>?_
   cases R
   refine⟨j,k,rfl,rfl,q _ Y (L2.Same.tr e (L2.Same.tr z D)) ?_⟩;rw[h,Bool.true_and];exact .bl _)
end
end LV
namespace LV
open PySem PySem.Spec PyProof.Rows L2
section
variable {X:Cx}{aA:Eg}{σ:L2.St}{H:Hp}{s:Shared}
mutual
theorem N6 (I:Inv X aA σ H s):∀(d:PyData) {v:V} {u:Value},d.canLay0=true->Rep X.K H v d->RelV v u->∃as,Reads s.heap u d as
 | .none,_,_,_,r,q=>by cases r;cases q;exact⟨_,.none⟩
 | .bool _,_,_,_,r,q=>by cases r;cases q;exact⟨_,.bool _⟩
 | .int _,_,_,_,r,q=>by cases r;obtain⟨t,rfl⟩:=q;exact⟨_,.int _ _⟩
 | .str _,_,_,_,r,q=>by cases r;obtain⟨t,rfl⟩:=q;exact⟨_,.str _ _⟩
 | .tuple ds,_,_,c,r,q=>by
  cases r with
  | tup sq rs=>
   cases q
   obtain⟨its,m,⟨o,e,w,n,d⟩,_⟩:=I.tuple sq;obtain⟨as,z⟩:=aE7 I ds (by simpa[PyData.canLay0]using c) rs m
   exact⟨_,.tuple e w d (by simpa using z)⟩
 | .list ds,_,_,c,r,q=>by
  cases r with
  | lst sq rs=>
   cases q
   obtain⟨its,m,⟨o,n,e,w,_,d⟩,_⟩:=I.list sq;obtain⟨as,z⟩:=aE7 I ds (by simpa[PyData.canLay0]using c) rs m
   exact⟨_,.list e w d (by simpa using z)⟩
 | .dict _,_,_,c,_,_=>by simp[PyData.canLay0]at c
theorem aE7 (I:Inv X aA σ H s):∀(ds:List PyData) {vs:List V} {us:List Value},PyData.canLayAll0 ds=true->Reps X.K H vs ds->Vals vs us->∃as,ReadsAll s.heap us ds as
 | [],_,_,_,r,q=>by cases r;cases q;exact⟨_,.nil⟩
 | d::ds,_,_,c,r,q=>by
  have e:d.canLay0=true/\PyData.canLayAll0 ds=true:=by simpa[PyData.canLayAll0]using c
  cases r with
  | cons a b=>
   cases q with
   | cons w z=>
    obtain⟨as,h1⟩:=N6 I d e.1 a w;obtain⟨bs,m⟩:=aE7 I ds e.2 b z;exact⟨_,.cons h1 m⟩
end
def Fit (d:PyData):Prop:=d.canLay0=true/\d.depth<=32
def bQ3 (K:Frag)(neg:Bool):R2:=λx y H Q=>∃d e,Rep K H x d/\Rep K H y e/\Fit d/\Fit e/\Q (.bl (if neg then !PyData.eqv d e else PyData.eqv d e)) H
def cS2 (K:Frag)(neg:Bool):R2:=λx y H Q=>∃d e ds,Rep K H x d/\Rep K H y e/\sq e=some ds/\Fit d/\Fit e/\Q (.bl (if neg then !ds.any λz=>PyData.eqv z d else ds.any λz=>PyData.eqv z d)) H
theorem dN9 (K:Frag)(hr:Room k X.A)(h:X.K=K:=by rfl):OpR X (compareOp .Eq) (bQ3 K false):=by
 subst h;intro M s σ H x y v u Q I U J ⟨d,e,m,he,w,z,q⟩;obtain⟨N,Y⟩:=N6 I d w.1 m U;obtain⟨bs,rb⟩:=N6 I e z.1 he J;exact SeqAt.compareEq_reads Y rb w.1 z.1 (by have:=hr.un;have:=w.2;lia) ⟨.bl _,H,I,rfl,q⟩
theorem aM1 (K:Frag)(hr:Room k X.A)(h:X.K=K:=by rfl):OpR X (compareOp .NotEq) (bQ3 K true):=by
 subst h;intro M s σ H x y v u Q I U J ⟨d,e,m,he,w,z,q⟩;obtain⟨N,Y⟩:=N6 I d w.1 m U;obtain⟨bs,rb⟩:=N6 I e z.1 he J;exact SeqAt.compareNe_reads Y rb w.1 z.1 (by have:=hr.un;have:=w.2;lia) ⟨.bl _,H,I,rfl,q⟩
theorem aR3 (h:Fit (.list ds)\/Fit (.tuple ds)):PyData.canLayAll0 ds=true/\PyData.depthAll ds<=32:=by
 rcases h with⟨a,b⟩ | ⟨a,b⟩ <;> simp only[PyData.canLay0,PyData.depth]at a b <;> exact⟨a,by lia⟩
theorem aE5 (K:Frag)(hr:Room k X.A)(h:X.K=K:=by rfl):OpR X (compareOp .In) (cS2 K false):=by
 subst h;intro J s σ H x y v u Q I R D ⟨d,e,ds,N,he,Y,w,m,q⟩;obtain⟨F,U⟩:=N6 I d w.1 N R;obtain⟨bs,rb⟩:=N6 I e m.1 he D;have fin:EP X J σ Q (.bool (ds.any λz=>PyData.eqv z d)) s:=⟨.bl _,H,I,rfl,q⟩
 cases e with
 | list M=>
  cases Y
  have:=aR3 (.inl m)
  exact SeqAt.in_list_reads rb U this.1 w.1 (by have:=hr.un;have:=w.2;lia) fin
 | tuple M=>
  cases Y
  have:=aR3 (.inr m)
  exact SeqAt.in_tuple_reads rb U this.1 w.1 (by have:=hr.un;have:=w.2;lia) fin
 | _=>cases Y
theorem V0 (K:Frag)(hr:Room k X.A)(h:X.K=K:=by rfl):OpR X (compareOp .NotIn) (cS2 K true):=by
 subst h;intro J s σ H x y v u Q I R D ⟨d,e,ds,N,he,Y,w,m,q⟩;obtain⟨F,U⟩:=N6 I d w.1 N R;obtain⟨bs,rb⟩:=N6 I e m.1 he D;have fin:EP X J σ Q (.bool (!ds.any λz=>PyData.eqv z d)) s:=⟨.bl _,H,I,rfl,q⟩
 cases e with
 | list M=>
  cases Y
  have:=aR3 (.inl m)
  exact SeqAt.notIn_list_reads rb U this.1 w.1 (by have:=hr.un;have:=w.2;lia) fin
 | tuple M=>
  cases Y
  have:=aR3 (.inr m)
  exact SeqAt.notIn_tuple_reads rb U this.1 w.1 (by have:=hr.un;have:=w.2;lia) fin
 | _=>cases Y
theorem S1:∀{l:List Int} {its:List Value},Vals (l.map V.int) its->IntsAre its l
 | [],_,r=>by cases r;exact .nil
 | i::l,_,r=>by
  cases r with
  | cons a b=>
   obtain⟨t,rfl⟩:=a;exact .cons _ _ (S1 b)
theorem bS6:∀{l:List Int} {m:Nat} (hm:m<l.length),m<l.idxOf k->l[m]≠k
 | [],m,hm,_=>by simp at hm
 | a::l,m,hm,h=>by
  rw[List.idxOf_cons]at h;by_cases e:a=k
  .subst e;simp at h
  .have e1:(a==k)=false:=by simpa using e
   rw[e1]at h;simp only[cond_false]at h;cases m with
   | zero=>simpa using e
   | succ m=>exact bS6 (l:=l) (m:=m) (by simpa using hm) (by lia)
theorem cL8 {A:Around}{P:Program}{w:World}{E:Ef}{l:Addr}{vs:List Value}{ns:List Int}{Q:Ef}(R:A.handled=none)(J:s.heap.IsList l vs.toArray)(hi:IntsAre vs ns)(m:0<ns.length)
  (h:∀h' M (t:Tok) tk,(∀b o,s.heap.get? b=some o->h'.get? b=some o)->M∈ns->(∀a,a∈ns->M<=a)->Q (.int M t) {s with heap:=h',toks:=tk}):wpAny (model P w) A (call (.builtin "min") [.ref l]) Q E s:=by
 obtain⟨xs,e⟩:=hi.allInts.items;have z:ns=xs.toList.map (·.1):=by rw[<- hi.numsOf,<- nums_intItems,<- e]
 have Y:0<xs.size:=by
  have X:=m;rw[z,Aa3,Am]at X;exact X
 rw[e]at J;refine min_intList R J Y λv h' tk B F=>?_
 obtain⟨t,rfl⟩:=intItems_at B;obtain⟨h1,N⟩:=argBest_lt (numAt xs) (xs.size-1);refine h _ _ t tk F ?_ λa U=>?_
 .rw[z,numAt_eq];exact getD_mem (by rw[Aa3,Am];lia)
 .rw[z]at U;obtain⟨j,D,rfl⟩:=mem_getD U;rw[Aa3,Am]at D;rw[<- numAt_eq];exact N j (by lia)
theorem cD5 (K:Frag)(m:X.calm=true)(h:X.K=K:=by rfl):P6 X (.builtin "min") (λxs H Q=>∃(p:Addr) (l:List Int),xs=[.ref p]/\SqL K H p (l.map V.int)/\l≠[]/\∀M,M∈l->(∀a∈l,M<=a)->Q (.int M) H):=by
 subst h;intro D s σ H xs P Q I r ⟨p,l,e,U,w,q⟩;subst e;obtain⟨u,rfl,R⟩:=T1 r;cases R;obtain⟨its,N,J,_⟩:=I.list U;exact cL8 (I.ok.hd m) J.isList (S1 N) (Du.mpr w) λF M t B Y h1 z=>⟨.int M,H,I.kept Y,⟨_,rfl⟩,q M h1 z⟩
theorem cF9 (K:Frag)(h:X.K=K:=by rfl):MtR X "list.index" (λx xs H Q=>∃(p:Addr) (l:List Int) (k:Int),x=.ref p/\xs=[.int k]/\SqL K H p (l.map V.int)/\k∈l/\Q (.int (l.idxOf k)) H):=by
 subst h;intro aA s σ H x xs v us Q I rx rv ⟨p,l,k,P,e2,hq,hk,q⟩;subst P;subst e2;cases rx;obtain⟨u,rfl,t,rfl⟩:=T1 rv;obtain⟨its,r,⟨o,n,e,c,D,d⟩,hz⟩:=I.list hq;obtain⟨oc,od,N,R⟩:=o;dsimp only at c D d;subst c;subst D;subst d;have Y:=r.length;rw[Aa3]at Y;have w:l.idxOf k<l.length:=Bg.mpr hk;have at_:∀(j:Nat) (w:j<its.toArray.size),∃t,its.toArray[j]=Value.int (l[j]'(by simpa[Y]using w)) t:=λj w=>by
  have U:j<l.length:=by simpa[Y]using w
  obtain⟨u,h1,t,rfl⟩:=r.get (i:=j) (x:=.int l[j]) (by rw[Aa9,Aa2 U];rfl)
  have:=(Ab0.mp h1).2
  exact⟨t,by simpa using this⟩
 have hz':=aM8
 rw[Aa3]at hz;refine call_meets F.slot_list_index ⟨_,e,rfl⟩ F.entry_list_index (F.args_list_index_2 _ _) (SeqAt.list_indexAt p its.toArray n none R (.int k t) (λy=>match y with | .int i _=>i==k | _=>false) (l.idxOf k) (by simpa[<- Y]using w) (by lia) ?_ ?_) ⟨e,λy hy=>?_,?_⟩
 .obtain⟨B,e'⟩:=at_ (l.idxOf k) (by simpa[<- Y]using w)
  rw[e'];simp
 .intro m M J;obtain⟨B,e'⟩:=at_ m M;rw[e']
  have:l[m]'(by simpa[Y]using M)≠k:=λz=>by
   have h1:m<l.length:=by simpa[Y]using M
   exact bS6 h1 J z
  simpa using this
 .obtain⟨j,w,rfl⟩:=Array.mem_iff_getElem.mp hy;obtain⟨B,e'⟩:=at_ j w;rw[e'];exact SeqAt.EqAt.int_int _ _ _ _
 .exact⟨.int _,H,I.tok _,⟨_,rfl⟩,q⟩
end
theorem bH2:∀{vs:List V} {us:List Value},vs.length=us.length->(∀(j:Nat) v u,vs[j]? = some v->us[j]? = some u->RelV v u)->Vals vs us
 | [],[],_,_=>.nil
 | v::vs,u::us,hl,h=>.cons (h 0 v u rfl rfl) (bH2 (by simpa using hl) λj v u e1 e2=>h (j+1) v u (by simpa using e1) (by simpa using e2))
 | [],_::_,hl,_=>by simp at hl
 | _::_,[],hl,_=>by simp at hl
section
variable {X:Cx}
def dF6 (ta:TA):TE:=λσ H Q=>ta σ H λvs H1=>∃i j:Int,vs=[.int i,.int j]/\∀p,H1 p=none->Q (.ref p) (upd H1 p (.rng i j))
theorem cV9 (J:Gl X "range")(M:X.mg "range" = none)(U:PA X [a,b] ta)(N:starEach [a,b] X.env=[(false,eval a X.env),(false,eval b X.env)]:=by rfl)(z:starEach [b] X.env=[(false,eval b X.env)]:=by rfl) :
  PE X (.Call (.Name "range" p) [a,b] [] pos) (dF6 ta):=by
 refine⟨?_⟩;intro Y s σ H Q I h;refine Call_ (m5 I J M boot_range (Bv (thn (U pos Y s σ H _ I h) λus B ⟨vs,H1,m,F,R⟩=>?_) (by rw[N,z]) (by rw[z];rfl)))
 obtain⟨i,j,e,q⟩:=R;subst e;cases F with
 | cons r rr=>
  cases rr with
  | cons D rr=>
   cases rr
   obtain⟨t,rfl⟩:=r;obtain⟨P,rfl⟩:=D;refine call_range_2 ?_;refine⟨.ref _,_,m.laid (λb o e=>Aa6 _ e) (Aa7 _) (show ObjOk X.prog X.w _ _ _ (.rng i j) from⟨_,_,_,Ac3 _ rfl⟩),rfl,q _ (m.hok.fresh (Aa7 _))⟩
def aD2 (lo:Int)(n:Nat):List V:=(List.range n).map λ(k:Nat)=>V.int (lo+(k:Int))
theorem aY6 (P:X.calm=true):P6 X (.type "list") (λxs H Q=>∃(r:Addr) (i j:Int),xs=[.ref r]/\H r=some (.rng i j)/\(-(2^62)<=i/\i<2^62 /\ -(2^62)<=j/\j<2^62/\j-i<=1000000)/\∀l,H l=none->Q (.ref l) (upd H l (.lst (aD2 i (j-i).toNat)))):=by
 intro aA s σ H xs us Q I r ⟨U,i,j,e,hq,⟨h1,D,F,B,h5⟩,q⟩;subst e;obtain⟨u,rfl,rx⟩:=T1 r;cases rx;obtain⟨t,u,v,e⟩:=I.hok U _ hq;have hn:Builtin.Range.rangeSize i j 1=((j-i).toNat:Int):=by rw[rangeSize_one];split <;> lia
 refine call_list_range (I.ok.hd P) (show IsRange s.heap U i j 1 t u v from e) (small_one h1 D F B) hn (by lia) λR tk z J kp N it=>?_
 have rv:Vals (aD2 i (j-i).toNat) z.toList:=by
  obtain⟨hz,Y⟩:=it;refine bH2 (by simp[aD2,hz]) λk v u m M=>?_
  obtain⟨t,rfl⟩:=Y k u (by simpa using M)
  have hk:k<(j-i).toNat:=by
   have:=(Ab0.mp m).1
   simpa[aD2]using this
  unfold aD2 at m;rw[Aa9,List.getElem?_range hk]at m;cases m;exact⟨t,by simp⟩
 refine⟨.ref s.heap.objs.size,_,I.laid kp (Aa7 _) (show ObjOk X.prog X.w _ R _ (.lst _) from⟨?_,z.toList,J,rv,by simpa using N⟩),rfl,q _ (I.hok.fresh (Aa7 _))⟩
 simp[aD2];unfold PySem.sizeLine;lia
end
end LV
namespace PySem
open Sem (wp)
theorem bR4:typeLookup (.type "list_reverseiterator") "__len__" = pure none:=by rw[typeLookup_type,builtinLookup_eq_fast];kernel_rfl
theorem cH6:typeLookup (.type "list_reverseiterator") "__length_hint__" = pure (some (.builtin "list_reverseiterator.__length_hint__")):=by rw[typeLookup_type,builtinLookup_eq_fast];kernel_rfl
section
variable {prog:Program}{w:World}{A:Around}{E:Ef}{s:Shared}
theorem aN8 (hh:A.handled=none)(z:s.heap.IsRevIter r l ((items.size:Int)-1))(hl:s.heap.IsList l items)(Q:l≠r)(S:Addr)(m:S≠r)(M:S≠l)(res:Value)(D:Nat)(hS:s.heap.get? S=some {cls:=.type "list",data:=.seq #[] D})
  (hR:∀h' tk acc' c',(∀b o,b≠S->b≠r->s.heap.get? b=some o->h'.get? b=some o)->h'.get? S=some {cls:=.type "list",dict:=none,data:=.seq acc' c',slots := #[]} ->
   ItemsOf (λi v=>items[items.size-1-i]? = some v) acc' items.size->R (.ok (.ret res)) {s with heap:=h',toks:=tk}) (hn:items.size<=sizeLine) :
  wpAny (model prog w) A.in1 (Builtin.List.listExtendWith (.ref S) (.ref r) res)
   (λfin s'=>match fin with | .done f=>R (.ok f) s' | .again c'=>c'.quiet=true/\codeAny (model prog w) A c' R s') (λe s'=>R (.error e) s') s:=by
 have J:S∉[r,l]:=λX=>by simp at X;rcases X with h | h;exact m h;exact M h
 unfold Builtin.List.listExtendWith;refine Aa (wpAny_typeOf z.typeIs ?_);have h1:Builtin.List.listSameRef (.ref S) (.ref r)=false:=by simp[Builtin.List.listSameRef,m]
 have B:(Value.type "list_reverseiterator" == Value.type "list")=false:=by decide
 have P:(Value.type "list_reverseiterator" == Value.type "tuple")=false:=by decide
 simp only[h1,B,P,Bool.or_false,Av,if_false];refine Aa (wpAny_pyIter_revIter z ?_);refine Aa (Bk ?_);unfold Builtin.List.listLengthHint;refine Aa (wpAny_specialOf z.typeIs bR4 ?_);show wpAny _ A.in1 (specialOf (Value.ref r) (Str.ofString "__length_hint__") >>= _) _ _ _;refine Aa (wpAny_specialOf z.typeIs cH6 ?_)
 wp_delta
 refine Aa (wpAny_isInstance (b:=true) z.typeIs (by rw[As];kernel_rfl) ?_)
 refine Ab ?_;rw[Ac (by decide)]
 refine Ab ⟨plainId_quiet F.plain_extend_loop _,codeAny_extend_loopS (Walks.listRev (A:=A.in1) hh r l Q items).toS hn S J res items.size 0 _ _ _ rfl (Ci _) ⟨Ci _,by simpa using z,hl⟩ hS (ItemsOf.nil _) λs' acc' c' X U Y=>?_⟩
 rw[Moved.eq_with X]
 refine hR s'.heap s'.toks acc' c' (λb ob hb N e=>X.heap b ob (λhmem=>?_) e) U Y
 rcases Aa1.mp hmem with e' | hmem
 .exact hb e'
 .exact N (Ad8.mp hmem)
theorem aC3 (P:A.handled=none)(D:s.heap.IsRevIter r l ((items.size:Int)-1))(hl:s.heap.IsList l items)(F:l≠r)(S:Addr)(Y:S≠r)(m:S≠l)(J:s.heap.get? S=some {cls:=.type "list",data:=.seq #[]})
  (hR:∀h' tk acc' c',(∀b o,b≠S->b≠r->s.heap.get? b=some o->h'.get? b=some o)->h'.get? S=some {cls:=.type "list",dict:=none,data:=.seq acc' c',slots := #[]} ->
   ItemsOf (λi v=>items[items.size-1-i]? = some v) acc' items.size->R (.ok (.ret .none)) {s with heap:=h',toks:=tk}) (hn:items.size<=sizeLine) :
  wpAny (model prog w) A.in1 (Builtin.«list.__init__» ⟨[.ref S,.ref r],[]⟩)
   (λfin s'=>match fin with | .done f=>R (.ok f) s' | .again c'=>c'.quiet=true/\codeAny (model prog w) A c' R s') (λe s'=>R (.error e) s') s:=by
 show wpAny _ _ (do let B <- Builtin.List.listItems (.ref S);Builtin.List.listUpdate (.ref S) (λ_ => #[]);letGo B.toList.reverse;Builtin.List.listExtendWith (.ref S) (.ref r) .none) _ _ s
 refine Aa ?_;unfold Builtin.List.listItems;refine Aa (wpAny_seqItems J rfl (Ab ?_));show wpAny _ _ (updateSeq S (λ_ => #[]) >>= λ_=>letGo (#[]:Array Value).toList.reverse >>= λ_=>Builtin.List.listExtendWith (.ref S) (.ref r) .none) _ _ s
 refine Aa (wpAny_updateSeq J rfl ?_);have N:=Bq (Obj.mapSeq (λ_=>(#[]:Array Value))) J rfl
 have z:∀b o,b≠S->s.heap.get? b=some o->(s.heap.update S (Obj.mapSeq (λ_=>(#[]:Array Value)))).get? b=some o:=
  λb o U e=>(Dj _ _ (Ne.symm U)).trans e
 refine Aa (wpAny_letGo ?_);refine aN8 P (s:={s with heap:=s.heap.update S (Obj.mapSeq (λ_=>(#[]:Array Value)))}) (D.at λo e=>z r o Y.symm e) (hl.at λo e=>z l o m.symm e) F S Y m .none _ N (λh' tk acc' c' hk M X=>?_) hn
 exact hR h' tk acc' c' (λb o U Q e=>hk b o U Q (z b o U e)) M X
theorem aV7 (B:A.handled=none)(m:s.heap.IsRevIter r l ((items.size:Int)-1))(M:s.heap.IsList l items)(U:l≠r)(hn:items.size<=sizeLine)
  (R:∀h' tk acc' c',(∀b o,b≠r->s.heap.get? b=some o->h'.get? b=some o) ->
   h'.get? s.heap.objs.size=some {cls:=.type "list",dict:=none,data:=.seq acc' c',slots := #[]}->ItemsOf (λi v=>items[items.size-1-i]? = some v) acc' items.size->Q (.ref s.heap.objs.size) {s with heap:=h',toks:=tk}) :
  wpAny (model prog w) A (call (.type "list") [.ref r]) Q E s:=by
 refine callType_codes (Q₁:=λY N=>Y=.ref s.heap.objs.size/\N={s with heap:=s.heap.push {cls:=.type "list",data:=.seq #[]}}) F.called_list (F.typeCall_list_1 _) F.entry_list_init
  (code_list_new _ ⟨rfl,rfl⟩) λY N h₁=>?_
 obtain⟨rfl,rfl⟩:=h₁;have J:(s.heap.push {cls:=.type "list",data:=.seq #[]}).get? s.heap.objs.size=some {cls:=.type "list",data:=.seq #[]}:=Ac3 _ rfl;have nr:s.heap.objs.size≠r:=by obtain⟨o,e,_⟩:=m;exact(Ab9 (Ab3 e)).symm
 have nl:s.heap.objs.size≠l:=by obtain⟨o,e,_⟩:=M;exact(Ab9 (Ab3 e)).symm
 refine⟨⟨_,J,rfl⟩,F.args_list_init_2 _ _,aC3 (A:=A.in1) B (s:={s with heap:=s.heap.push {cls:=.type "list",data:=.seq #[]}}) (m.at λo e=>Aa6 _ e) (M.at λo e=>Aa6 _ e) U _ nr nl J (λh' tk acc' c' P X z=>?_) hn⟩
 exact⟨rfl,R h' tk acc' c' (λb o D e=>P b o (Ab9 (Ab3 e)) D (Aa6 _ e)) X z⟩
end
end PySem
namespace LV
open PySem PySem.Spec PyProof.Rows L2
section
variable {X:Cx}
def cB3 (K:Frag)(te:TE):TE:=λσ H Q=>te σ H λx H1=>∃p ys,x=.ref p/\SqL K H1 p ys/\∀l,H1 l=none->Q (.ref l) (upd H1 l (.lst ys.reverse))
theorem bO7 (K:Frag)(hc:X.calm=true)(P:Gl X "list")(hm1:X.mg "list" = none)(hg2:Gl X "reversed")(hm2:X.mg "reversed" = none)(he:PE X e te)(hK:X.K=K:=by rfl)
  (M:starEach [e] X.env=[(false,eval e X.env)]:=by rfl) (N:starEach [Expr.Call (.Name "reversed" p2) [e] [] pos2] X.env=[(false,eval (Expr.Call (.Name "reversed" p2) [e] [] pos2) X.env)]:=by rfl) :
  PE X (.Call (.Name "list" p1) [.Call (.Name "reversed" p2) [e] [] pos2] [] pos1) (cB3 K te):=by
 subst hK;refine⟨?_⟩;intro F s σ H Q I h;refine wpAny_Call_Name_kw (m5 I P hm1 boot_list ?_);refine Bv ?_ (by rw[N];rfl) rfl
 rw[N];show wpAny _ _ (spliced [(false,eval (Expr.Call (.Name "reversed" p2) [e] [] pos2) X.env)]) _ _ s;refine Calls.spliced_cons ?_;refine wpAny_Call_Name_kw (m5 I hg2 hm2 boot_reversed ?_);refine Bv ?_ (by rw[M];rfl) rfl
 rw[M];show wpAny _ _ (spliced [(false,eval e X.env)]) _ _ s;refine Calls.spliced_cons (thn (he F s σ H _ I h) λu Y ⟨x,H1,J,r1,p,ys,D,hq,q⟩=>?_)
 subst D;cases r1;refine Calls.spliced_nil ?_;obtain⟨its,rv,pl,U⟩:=J.list hq;have m:=rv.length;have hlt:p<Y.heap.objs.size:=by obtain⟨o,n,e,_⟩:=pl;exact Ab3 e
 refine call_reversed_list pl.isList ?_;refine Calls.spliced_nil ?_;have I2:Inv X F σ H1 {Y with heap:=Y.heap.push (revObj p ((its.toArray.size:Int)-1))}:=J.kept (t':=Y.toks) λb o e=>Aa6 _ e
 refine aV7 (J.ok.hd hc) (r:=Y.heap.objs.size) (items:=its.toArray) ⟨_,Ac3 _ rfl,rfl,rfl⟩ (pl.isList.at λo e=>Aa6 _ e) (Ab9 hlt) (by rw[Ab2];lia) λB tk z c' kp el it=>?_
 have rr:Vals ys.reverse z.toList:=by
  obtain⟨U,hit⟩:=it;have U:z.size=its.length:=by simpa using U
  refine bH2 (by simp[U,m]) λj v u D e2=>?_
  have hj:j<its.length:=by
   have:=(Ab0.mp e2).1
   simpa[U]using this
  have hu:=hit j u (by simpa using e2)
  rw[List.getElem?_reverse (by lia),m]at D
  obtain⟨u',h1,h2⟩:=rv.get D;simp only[Ab2]at hu;have R:its[its.length-1-j]? = some u:=by simpa using hu
  rw[h1]at R;cases R;exact h2
 have kp':∀b o,Y.heap.get? b=some o->B.get? b=some o:=λb o e=>kp b o (Ab9 (Ab3 e)) (Aa6 _ e)
 have I3:Inv X F σ (upd H1 (Y.heap.push (revObj p ((its.toArray.size:Int)-1))).objs.size (.lst ys.reverse)) {Y with heap:=B,toks:=tk}:=
  J.laid kp' (by rw[Ce];exact Nat.le_succ _) (show ObjOk X.prog X.w _ B _ (.lst _) from⟨by rw[Ae1];exact U,z.toList,c',rr,by simpa using el⟩)
 exact⟨.ref _,_,I3,rfl,q _ (J.hok.fresh (by rw[Ce];exact Nat.le_succ _))⟩
theorem dB3 {s:Shared}{h':Heap}{o:Obj}(w:∀b x,b∉[s.heap.objs.size]->(s.heap.push o).get? b=some x->h'.get? b=some x):∀b x,s.heap.get? b=some x->h'.get? b=some x:=
 λb x e=>w b x (λz=>by rw[Ad8.mp z]at e;exact Ad9 _ (Ab3 e)) (Aa6 _ e)
theorem cW4 {bs:List Bool}{its:List Value}(r:Vals (bs.map V.bl) its){i:Nat}{v:Value}(e:its[i]? = some v):∃b,bs[i]? = some b/\v=.bool b:=by
 have z:=r.length
 rw[Aa3]at z;have hi:i<bs.length:=by have:=(Ab0.mp e).1;lia
 obtain⟨u,h1,w⟩:=r.get (i:=i) (x:=.bl bs[i]) (by rw[Aa9,Aa2 hi];rfl)
 rw[e]at h1;cases h1;exact⟨_,Aa2 hi,w⟩
theorem cF5 (K:Frag)(J:X.calm=true)(h:X.K=K:=by rfl):P6 X (.builtin "all") (λxs H Q=>∃(p:Addr) (l:List Bool),xs=[.ref p]/\SqL K H p (l.map V.bl)/\Q (.bl (l.all id)) H):=by
 subst h;intro P s σ H xs us Q I r ⟨p,l,e,N,q⟩;subst e;obtain⟨u,rfl,D⟩:=T1 r;cases D;obtain⟨its,Y,R,_⟩:=I.list N;have w:=R.isList;have z:p<s.heap.objs.size:=by obtain⟨_,e,_⟩:=w;exact Ab3 e
 refine call_all_walk (wpAny_pyIter_list w ?_);refine⟨s.heap.objs.size,[s.heap.objs.size,p],[s.heap.objs.size],its.toArray.size,_,_,λi=>(l[i]?).getD true,rfl,Walks.list (A:=X.A.in1) (I.ok.hd J) _ p (Ab9 z) its.toArray,
  ⟨⟨_,Ac3 _ rfl,rfl,rfl⟩,w.push _⟩,λi v s' B F U m=>?_,λh' tk M=>?_⟩
 .obtain⟨b,e,rfl⟩:=cW4 Y (i:=i) (v:=v) (by simpa using U)
  simp only[e,Option.getD_some]at m;exact wpAny_truthy_bool m
 .have e:((List.range its.toArray.size).all λi=>(l[i]?).getD true)=l.all id:=by
   have:=Y.length
   rw[Aa3]at this;rw[Ab2,<- this];exact LSm.range_all l
  rw[e];exact⟨.bl _,H,I.kept (dB3 M),rfl,q⟩
end
end LV
namespace LS
open PySem PySem.W PyProof.Rows
def ev {α:Type}(lt:Nat->Nat->Bool):KasT α->α
 | .ret a=>a
 | .ask i j k=>ev lt (k (lt i j))
theorem X9 (lt:Nat->Nat->Bool)(f:α->KasT β):∀t:KasT α,ev lt (t.bind f)=ev lt (f (ev lt t))
 | .ret _=>rfl
 | .ask i j k=>X9 lt f (k (lt i j))
def P3 {α:Type}(lt:Nat->Nat->Bool)(P:Nat->Prop):KasT α->Prop
 | .ret _=>True
 | .ask i j k=>P i/\P j/\P3 lt P (k (lt i j))
theorem P5:∀{t:KasT α},P3 lt P t->P3 lt P (f (ev lt t))->P3 lt P (t.bind f)
 | .ret _,_,h=>h
 | .ask _ _ _,⟨h1,h2,h3⟩,h=>⟨h1,h2,P5 h3 h⟩
theorem cN7
  (e:∀i j C,P i->P j->C (lt i j) s->cmp i j C s):∀(t:KasT α),P3 lt P t->Q (ev lt t) s->t.kasWp cmp Q s
 | .ret _,_,h=>h
 | .ask i j k,⟨h1,w,z⟩,h=>e i j _ h1 w (cN7 e (k (lt i j)) z h)
structure Ord (lt:Nat->Nat->Bool):Prop where
 asym:∀a b,lt a b=true->lt b a=false
 trans:∀a b c,lt b a=false->lt c b=false->lt c a=false
section
variable {lt:Nat->Nat->Bool}
def g (p:Array Nat)(i:Nat):Nat:=p.getD i 0
theorem aP6:g p i=(p[i]?).getD 0:=by unfold g;simp[Ak]
abbrev le (lt:Nat->Nat->Bool)(a b:Nat):Prop:=lt b a=false
theorem Ord.refl (O:Ord lt)(a:Nat):le lt a a:=by
 cases h:lt a a with
 | false=>exact h
 | true=>exact O.asym a a h
theorem Ord.of_lt (O:Ord lt)(h:lt a b=true):le lt a b:=O.asym a b h
def Srt (lt:Nat->Nat->Bool)(p:Array Nat)(k:Nat):Prop:=∀i j,i<=j->j<k->le lt (g p i) (g p j)
def Dsc (lt:Nat->Nat->Bool)(p:Array Nat)(k:Nat):Prop:=∀i j,i<=j->j<k->le lt (g p j) (g p i)
theorem bB4 (e:j<=p.size)(k:Nat):g (kas_rev p i j) k=if i<=k/\k<j then g p (i+j-1-k) else g p k:=by
 unfold kas_rev;rw[aP6,getElem?_mirror_all e,aP6,aP6];split <;> rfl
theorem dQ5 (e:k<p.size)(w:l<=k)(i:Nat):g (bubble p k (k-l)) i=if i=l then g p k else if l<i/\i<=k then g p (i-1) else g p i:=by
 rw[aP6,getElem?_bubble e _ (by lia),aP6,aP6,aP6,show k-(k-l)=l by lia]
 repeat' split
 all_goals rfl
theorem bH3 (O:Ord lt):∀(f n:Nat),1<=n->n+f<=N->Srt lt p n->∃m,ev lt (kas_asc p f n)=m/\n<=m/\m<=n+f/\Srt lt p m/\(m<n+f->lt (g p m) (g p (m-1))=true)/\P3 lt (λi=>∃j,j<N/\i=g p j) (kas_asc p f n)
 | 0,n,h1,hN,h=>⟨n,rfl,Aa7 _,Aa7 _,h,λz=>absurd z (Ad9 _),trivial⟩
 | f+1,n,h1,hN,h=>by
  cases w:lt (g p n) (g p (n-1)) with
  | true=>
   refine⟨n,?_,Aa7 _,by lia,h,λ_=>w,⟨n,by lia,rfl⟩,⟨n-1,by lia,rfl⟩,?_⟩
   .show ev lt (if lt (g p n) (g p (n-1))=true then KasT.ret n else kas_asc p f (n+1))=n
    rw[w];rfl
   .show P3 lt _ (if lt (g p n) (g p (n-1))=true then KasT.ret n else kas_asc p f (n+1))
    rw[w];exact trivial
  | false=>
   have M:Srt lt p (n+1):=λi j s D=>by
    by_cases e:j=n
    .subst e;by_cases J:i=j
     .subst J;exact O.refl _
     .exact O.trans _ _ _ (h i (j-1) (by lia) (by lia)) w
    .exact h i j s (by lia)
   obtain⟨m,e,R,Q,Y,X,U⟩:=bH3 O (N:=N) f (n+1) (by lia) (by lia) M
   refine⟨m,?_,by lia,by lia,Y,λz=>X (by lia),⟨n,by lia,rfl⟩,⟨n-1,by lia,rfl⟩,?_⟩
   .show ev lt (if lt (g p n) (g p (n-1))=true then KasT.ret n else kas_asc p f (n+1))=m
    rw[w];exact e
   .show P3 lt _ (if lt (g p n) (g p (n-1))=true then KasT.ret n else kas_asc p f (n+1))
    rw[w];exact U
def Same (lt:Nat->Nat->Bool)(p:Array Nat)(n q:Nat):Prop:=q<n/\∀i j,n-1-q<=i->i<n->n-1-q<=j->j<n->le lt (g p i) (g p j)
theorem bW5 (O:Ord lt)(M:n<=p.size)(h:Dsc lt p n)(w:Same lt p n q):Dsc lt (kas_rev p (n-(q+1)) n) n/\(∀k,n<=k->g (kas_rev p (n-(q+1)) n) k=g p k)/\Same lt (kas_rev p (n-(q+1)) n) n q:=by
 obtain⟨N,w⟩:=w;have e:∀k,g (kas_rev p (n-(q+1)) n) k=if n-(q+1)<=k/\k<n then g p (n-(q+1)+n-1-k) else g p k:=bB4 M;have z:∀k,k<n->le lt (g (kas_rev p (n-(q+1)) n) k) (g p k)/\le lt (g p k) (g (kas_rev p (n-(q+1)) n) k):=λk J=>by
  rw[e];split
  .exact⟨w _ _ (by lia) (by lia) (by lia) (by lia),w _ _ (by lia) (by lia) (by lia) (by lia)⟩
  .exact⟨O.refl _,O.refl _⟩
 refine⟨λi j s X=>?_,λk J=>by rw[e,Ac (by lia)],N,λi j h1 m U Y=>?_⟩
 .exact O.trans _ _ _ (z j X).1 (O.trans _ _ _ (h i j s X) (z i (by lia)).2)
 .exact O.trans _ _ _ (z i m).1 (O.trans _ _ _ (w i j h1 m U Y) (z j Y).2)
theorem t8 (O:Ord lt)(h1:1<=n)(h:Dsc lt p n)(s:le lt (g p n) (g p (n-1))):Dsc lt p (n+1):=λi j w m=>by
 by_cases e:j=n
 .subst e;by_cases z:i=j
  .subst z;exact O.refl _
  .exact O.trans _ _ _ s (h i (j-1) (by lia) (by lia))
 .exact h i j w (by lia)
theorem aQ8 (O:Ord lt):∀(f:Nat) (p:Array Nat) (n q:Nat),1<=n->n+f<=N->N<=p.size->(∀j,j<N->P (g p j))->Dsc lt p n->Same lt p n q ->
  ∃p' m q',ev lt (kas_desc f p n q)=(p',m,q')/\p'.Perm p/\n<=m/\m<=n+f/\Dsc lt p' m/\Same lt p' m q'/\(∀j,j<N->P (g p' j))/\P3 lt P (kas_desc f p n q)
 | 0,p,n,q,h1,hN,hz,hP,h,w=>⟨p,n,q,rfl,Array.Perm.refl _,Aa7 _,Aa7 _,h,w,hP,trivial⟩
 | f+1,p,n,q,h1,hN,hz,hP,h,w=>by
  have sh:∀c:Bool,lt (g p n) (g p (n-1))=c->ev lt (kas_desc (f+1) p n q)=ev lt (if c=true then(if q>0 then kas_desc f (kas_rev p (n-(q+1)) n) (n+1) 0 else kas_desc f p (n+1) 0)
    else .ask (g p (n-1)) (g p n) λd=>if d=true then .ret (p,n,q) else kas_desc f p (n+1) (q+1)):=λc e=>by subst e;rfl
  have z:∀c:Bool,lt (g p n) (g p (n-1))=c->P3 lt P (if c=true then(if q>0 then kas_desc f (kas_rev p (n-(q+1)) n) (n+1) 0 else kas_desc f p (n+1) 0)
    else .ask (g p (n-1)) (g p n) λd=>if d=true then .ret (p,n,q) else kas_desc f p (n+1) (q+1))->P3 lt P (kas_desc (f+1) p n q):=λc e hh=>by subst e;exact⟨hP n (by lia),hP (n-1) (by lia),hh⟩
  cases s:lt (g p n) (g p (n-1)) with
  | true=>
   rw[sh true s,Ae rfl];have z:=z true s;rw[Ae rfl]at z;by_cases B:q>0
   .rw[Ae B]at z ⊢;obtain⟨d1,d2,d3⟩:=bW5 O (by lia) h w
    have hl:le lt (g (kas_rev p (n-(q+1)) n) n) (g (kas_rev p (n-(q+1)) n) (n-1)):=by
     rw[d2 n (Aa7 _),bB4 (by lia),Ae (by lia)]
     exact O.trans _ _ _ (O.of_lt s) (w.2 _ _ (by lia) (by lia) (by have:=w.1;lia) (by have:=w.1;lia))
    obtain⟨p',m,q',X,U,a2,a3,J,M,R,Q⟩:=aQ8 O (P:=P) (N:=N) f (kas_rev p (n-(q+1)) n) (n+1) 0 (by lia) (by lia) (by unfold kas_rev;rw[mirror_size];exact hz) (λj hj=>by
     rw[bB4 (by lia)]
     split
     .exact hP _ (by have:=w.1;lia)
     .exact hP j hj) (t8 O h1 d1 hl) ⟨by lia,λi j b1 D b3 F=>by
      have:i=j:=by lia
      subst this;exact O.refl _⟩
    exact⟨p',m,q',X,U.trans (mirror_perm _ _ _ _),by lia,by lia,J,M,R,z Q⟩
   .rw[Ac B]at z ⊢;obtain⟨p',m,q',X,U,a2,a3,J,M,R,Q⟩:=aQ8 O (P:=P) (N:=N) f p (n+1) 0 (by lia) (by lia) hz hP (t8 O h1 h (O.of_lt s)) ⟨by lia,λi j b1 D b3 F=>by
      have:i=j:=by lia
      subst this;exact O.refl _⟩
    exact⟨p',m,q',X,U,by lia,by lia,J,M,R,z Q⟩
  | false=>
   rw[sh false s,Ac Ai];have z:=z false s;rw[Ac Ai]at z;cases Y:lt (g p (n-1)) (g p n) with
   | true=>
    refine⟨p,n,q,?_,Array.Perm.refl _,Aa7 _,by lia,h,w,hP,z ⟨hP _ (by lia),hP _ (by lia),?_⟩⟩
    .show ev lt (if lt (g p (n-1)) (g p n)=true then _ else _)=_
     rw[Y];rfl
    .show P3 lt P (if lt (g p (n-1)) (g p n)=true then _ else _)
     rw[Y];exact trivial
   | false=>
    obtain⟨B,w⟩:=w;have s':Same lt p (n+1) (q+1):=⟨by lia,λi j b1 D b3 F=>by
     have up:∀i,n-1-q<=i->i<n+1->le lt (g p i) (g p (n-1))/\le lt (g p (n-1)) (g p i):=λi c1 c2=>by
      by_cases e:i=n
      .subst e;exact⟨Y,s⟩
      .exact⟨w i (n-1) c1 (by lia) (by lia) (by lia),w (n-1) i (by lia) (by lia) c1 (by lia)⟩
     exact O.trans _ _ _ (up i (by lia) D).1 (up j (by lia) F).2⟩
    obtain⟨p',m,q',X,U,a2,a3,J,M,R,Q⟩:=aQ8 O (P:=P) (N:=N) f p (n+1) (q+1) (by lia) (by lia) hz hP (t8 O h1 h Y) s'
    refine⟨p',m,q',?_,U,by lia,by lia,J,M,R,z ⟨hP _ (by lia),hP _ (by lia),?_⟩⟩
    .show ev lt (if lt (g p (n-1)) (g p n)=true then _ else _)=_
     rw[Y];exact X
    .show P3 lt P (if lt (g p (n-1)) (g p n)=true then _ else _)
     rw[Y];exact Q
theorem dD4 (O:Ord lt)(e:∀j,j<N->P (g p j))(h1:1<=n)(hN:n+f<=N)(h:Srt lt p n):P3 lt P (kas_asc p f n):=by
 obtain⟨_,_,_,_,_,_,a⟩:=bH3 O f n h1 hN h;have Y:∀{α:Type} (t:KasT α),P3 lt (λi=>∃j,j<N/\i=g p j) t->P3 lt P t:=λ{α} t=>by
  induction t with
  | ret _=>exact λz=>z
  | ask i j k m=>
   rintro⟨⟨a,w,rfl⟩,⟨b,s,rfl⟩,z⟩;exact⟨e a w,e b s,m _ z⟩
 exact Y _ a
theorem bM5 (O:Ord lt)(h1:1<=n)(Q:n<=N)(D:N<=p.size)(z:∀j,j<N->P (g p j))(h:Dsc lt p n) :
  ∃m p',ev lt (kas_tail3 n N p)=(m,p')/\p'.Perm p/\1<=m/\m<=N/\Srt lt p' m/\(∀j,j<N->P (g p' j))/\P3 lt P (kas_tail3 n N p):=by
 have e:∀k,g (kas_rev p 0 n) k=if 0<=k/\k<n then g p (0+n-1-k) else g p k:=bB4 (by lia)
 have s:Srt lt (kas_rev p 0 n) n:=λi j J Y=>by
  rw[e,e,Ae (by lia),Ae (by lia)]
  exact h _ _ (by lia) (by lia)
 have w:∀j,j<N->P (g (kas_rev p 0 n) j):=λj Y=>by
  rw[e];split
  .exact z _ (by lia)
  .exact z j Y
 obtain⟨m,X,M,R,U,_,_⟩:=bH3 O (p:=kas_rev p 0 n) (N:=N) (N-n) n h1 (by lia) s
 refine⟨m,kas_rev p 0 n,?_,mirror_perm _ _ _ _,by lia,by lia,U,w,P5 (dD4 O w h1 (by lia) s) trivial⟩
 unfold kas_tail3;rw[X9,X];rfl
theorem aO5 (O:Ord lt)(h1:1<=n)(hn:n+1<=N)(hz:N<=p.size)(hP:∀j,j<N->P (g p j))(h:Dsc lt p (n+1)) :
  ∃m p',ev lt (kas_descPart n N p)=(m,p')/\p'.Perm p/\1<=m/\m<=N/\Srt lt p' m/\(∀j,j<N->P (g p' j))/\P3 lt P (kas_descPart n N p):=by
 obtain⟨M,w,e,z,R,a2,a3,a4,a5,Q,a7⟩:=aQ8 O (P:=P) (N:=N) (N-(n+1)) p (n+1) 0 (by lia) (by lia) hz hP h ⟨by lia,λi j s Y X U=>by
  have:i=j:=by lia
  subst this;exact O.refl _⟩
 have z1:N<=M.size:=by rw[R.size_eq];exact hz
 unfold kas_descPart;by_cases J:e>0
 .obtain⟨d1,d2,d3⟩:=bW5 O (by lia) a4 a5
  have hP':∀j,j<N->P (g (kas_rev M (w-(e+1)) w) j):=λj hj=>by
   rw[bB4 (by lia)]
   split
   .exact Q _ (by have:=a5.1;lia)
   .exact Q j hj
  obtain⟨m,p',D,s,Y,X,U,F,B⟩:=bM5 O (P:=P) (p:=kas_rev M (w-(e+1)) w) (n:=w) (N:=N) (by lia) (by lia) (by unfold kas_rev;rw[mirror_size];exact z1) hP' d1
  refine⟨m,p',?_,s.trans ((mirror_perm _ _ _ _).trans R),Y,X,U,F,P5 a7 ?_⟩
  .rw[X9,z];show ev lt (if e>0 then _ else _)=_;rw[Ae J];exact D
  .rw[z];show P3 lt P (if e>0 then _ else _);rw[Ae J];exact B
 .obtain⟨m,p',D,s,Y,X,U,F,B⟩:=bM5 O (P:=P) (p:=M) (n:=w) (N:=N) (by lia) (by lia) z1 Q a4
  refine⟨m,p',?_,s.trans R,Y,X,U,F,P5 a7 ?_⟩
  .rw[X9,z];show ev lt (if e>0 then _ else _)=_;rw[Ac J];exact D
  .rw[z];show P3 lt P (if e>0 then _ else _);rw[Ac J];exact B
theorem cU4 (O:Ord lt)(h1:1<=N)(hz:N<=p.size)(w:∀j,j<N->P (g p j)) :
  ∃m p',ev lt (kas_count N p)=(m,p')/\p'.Perm p/\1<=m/\m<=N/\Srt lt p' m/\(∀j,j<N->P (g p' j))/\P3 lt P (kas_count N p):=by
 have s1:Srt lt p 1:=λi j X z=>by
  have:i=j:=by lia
  subst this;exact O.refl _
 obtain⟨n,a0,J,a2,M,a4,_⟩:=bH3 O (p:=p) (N:=N) (N-1) 1 (by lia) (by lia) s1
 have aP:=dD4 O w (f:=N-1) (n:=1) (by lia) (by lia) s1
 unfold kas_count;have U:∀{t:KasT (Nat×Array Nat)},(if(n==N)=true then KasT.ret (n,p) else if n>1 then .ask (p.getD 0 0) (p.getD (n-1) 0) λc=>if c=true then .ret (n,p) else kas_descPart n N (kas_rev p 0 n) else kas_descPart n N p)=t ->
   (∃m p',ev lt t=(m,p')/\p'.Perm p/\1<=m/\m<=N/\Srt lt p' m/\(∀j,j<N->P (g p' j))/\P3 lt P t) ->
   ∃m p',ev lt ((kas_asc p (N-1) 1).bind λn=>if(n==N)=true then .ret (n,p) else if n>1 then .ask (p.getD 0 0) (p.getD (n-1) 0) λc=>if c=true then .ret (n,p) else kas_descPart n N (kas_rev p 0 n) else kas_descPart n N p)=(m,p')/\p'.Perm p/\1<=m/\m<=N/\Srt lt p' m/\(∀j,j<N->P (g p' j)) /\
    P3 lt P ((kas_asc p (N-1) 1).bind λn=>if(n==N)=true then .ret (n,p) else if n>1 then .ask (p.getD 0 0) (p.getD (n-1) 0) λc=>if c=true then .ret (n,p) else kas_descPart n N (kas_rev p 0 n) else kas_descPart n N p):=λ{t} e h=>by
  obtain⟨m,p',R,Q,D,F,B,b5,b6⟩:=h;refine⟨m,p',?_,Q,D,F,B,b5,P5 aP ?_⟩
  .rw[X9,a0,e];exact R
  .rw[a0,e];exact b6
 refine U rfl ?_;by_cases e:n=N
 .rw[Ae (by simp[e])]
  exact⟨n,p,rfl,Array.Perm.refl _,J,by lia,M,w,trivial⟩
 .rw[Ac (by simp[e])]
  have hd:=a4 (by lia)
  by_cases h2:n>1
  .rw[Ae h2];cases Y:lt (g p 0) (g p (n-1)) with
   | true=>
    refine⟨n,p,?_,Array.Perm.refl _,J,by lia,M,w,w 0 (by lia),w (n-1) (by lia),?_⟩
    .show ev lt (if lt (g p 0) (g p (n-1))=true then _ else _)=_
     rw[Y];rfl
    .show P3 lt P (if lt (g p 0) (g p (n-1))=true then _ else _)
     rw[Y];exact trivial
   | false=>
    have al:∀i j,i<n->j<n->le lt (g p i) (g p j):=λi j hi z=>O.trans _ _ _ (M i (n-1) (by lia) (by lia)) (O.trans _ _ _ Y (M 0 j (by lia) z))
    have s:∀k,g (kas_rev p 0 n) k=if 0<=k/\k<n then g p (0+n-1-k) else g p k:=bB4 (by lia)
    have ds:Dsc lt (kas_rev p 0 n) (n+1):=by
     refine t8 O J (λi j X z=>?_) ?_
     .rw[s,s,Ae (by lia),Ae (by lia)]
      exact al _ _ (by lia) (by lia)
     .rw[s,s,Ac (by lia),Ae (by lia)]
      exact O.trans _ _ _ (O.of_lt hd) (al _ _ (by lia) (by lia))
    have hP':∀j,j<N->P (g (kas_rev p 0 n) j):=λj z=>by
     rw[s];split
     .exact w _ (by lia)
     .exact w j z
    obtain⟨m,p',R,Q,D,F,B,b5,b6⟩:=aO5 O (P:=P) (p:=kas_rev p 0 n) (n:=n) (N:=N) J (by lia) (by unfold kas_rev;rw[mirror_size];exact hz) hP' ds
    refine⟨m,p',?_,Q.trans (mirror_perm _ _ _ _),D,F,B,b5,w 0 (by lia),w (n-1) (by lia),?_⟩
    .show ev lt (if lt (g p 0) (g p (n-1))=true then _ else _)=_
     rw[Y];exact R
    .show P3 lt P (if lt (g p 0) (g p (n-1))=true then _ else _)
     rw[Y];exact b6
  .rw[Ac h2];have n1:n=1:=by lia
   subst n1;exact aO5 O (Aa7 _) (by lia) hz w (t8 O (Aa7 _) (λi j X z=>by
    have:i=j:=by lia
    subst this;exact O.refl _) (O.of_lt hd))
theorem aX4 (O:Ord lt)(Y:k<N)(w:∀j,j<N->P (g p j))(X:Srt lt p k):∀(f l r:Nat),l<=r->r<=k->r-l<=f->(∀i,i<l->le lt (g p i) (g p k))->(∀i,r<=i->i<k->lt (g p k) (g p i)=true) ->
  ∃m,ev lt (kas_place p k f l r)=m/\m<=k/\(∀i,i<m->le lt (g p i) (g p k))/\(∀i,m<=i->i<k->lt (g p k) (g p i)=true)/\P3 lt P (kas_place p k f l r)
 | 0,l,r,h1,h2,h3,h4,h5=>⟨l,rfl,by lia,h4,λi a b=>h5 i (by lia) b,trivial⟩
 | f+1,l,r,h1,h2,h3,h4,h5=>by
  unfold kas_place;by_cases s:l≥r
  .rw[Ae s];exact⟨l,rfl,by lia,h4,λi a b=>h5 i (by lia) b,trivial⟩
  .rw[Ac s];cases z:lt (g p k) (g p ((l+r) / 2)) with
   | true=>
    obtain⟨m,U,J,M,R,Q⟩:=aX4 O Y w X f l ((l+r) / 2) (by lia) (by lia) (by lia) h4 (λi D F=>by
     cases e:lt (g p k) (g p i) with
     | true=>rfl
     | false=>
      have:lt (g p k) (g p ((l+r) / 2))=false:=O.trans _ _ _ (X _ _ D F) e
      rw[z]at this;cases this)
    refine⟨m,?_,J,M,R,w k Y,w _ (by lia),?_⟩
    .show ev lt (if lt (g p k) (g p ((l+r) / 2))=true then _ else _)=_
     rw[z];exact U
    .show P3 lt P (if lt (g p k) (g p ((l+r) / 2))=true then _ else _)
     rw[z];exact Q
   | false=>
    obtain⟨m,U,J,M,R,Q⟩:=aX4 O Y w X f ((l+r) / 2+1) r (by lia) (by lia) (by lia) (λi D=>O.trans _ _ _ (X i ((l+r) / 2) (by lia) (by lia)) z) h5
    refine⟨m,?_,J,M,R,w k Y,w _ (by lia),?_⟩
    .show ev lt (if lt (g p k) (g p ((l+r) / 2))=true then _ else _)=_
     rw[z];exact U
    .show P3 lt P (if lt (g p k) (g p ((l+r) / 2))=true then _ else _)
     rw[z];exact Q
theorem cJ6 (O:Ord lt):∀(f:Nat) (p:Array Nat) (k:Nat),k+f=N->N<=p.size->(∀j,j<N->P (g p j))->Srt lt p k ->
  ∃p',ev lt (kas_bin f p k)=p'/\p'.Perm p/\Srt lt p' N/\P3 lt P (kas_bin f p k)
 | 0,p,k,hN,hz,hP,h=>⟨p,rfl,Array.Perm.refl _,(show k=N from hN)▸h,trivial⟩
 | f+1,p,k,hN,hz,hP,h=>by
  obtain⟨l,Y,M,R,Q,D⟩:=aX4 O (k:=k) (N:=N) (by lia) hP h k 0 k (by lia) (by lia) (by lia) (λi z=>absurd z (Nat.not_lt_zero _)) (λi a b=>by lia)
  have e:∀i,g (bubble p k (k-l)) i=if i=l then g p k else if l<i/\i<=k then g p (i-1) else g p i:=dQ5 (by lia) M
  have s':Srt lt (bubble p k (k-l)) (k+1):=λi j m hj=>by
   rw[e,e];by_cases J:i=l
   .rw[Ae J];by_cases w:j=l
    .rw[Ae w];exact O.refl _
    .rw[Ac w,Ae (by lia)]
     exact O.of_lt (Q _ (by lia) (by lia))
   .rw[Ac J];by_cases w:j=l
    .rw[Ae w,Ac (by lia)]
     exact R i (by lia)
    .rw[Ac w];by_cases X:l<i/\i<=k
     .rw[Ae X,Ae (by lia)]
      exact h _ _ (by lia) (by lia)
     .rw[Ac X];by_cases U:l<j/\j<=k
      .rw[Ae U];exact h _ _ (by lia) (by lia)
      .rw[Ac U];exact h _ _ m (by lia)
  have s:∀j,j<N->P (g (bubble p k (k-l)) j):=λj hj=>by
   rw[e]
   repeat' split
   all_goals exact hP _ (by lia)
  obtain⟨p',F,B,b2,b3⟩:=cJ6 O (P:=P) (N:=N) f (bubble p k (k-l)) (k+1) (by lia) (by rw[bubble_size];exact hz) s s'
  refine⟨p',?_,B.trans (bubble_perm _ _ _),b2,?_⟩
  .show ev lt ((kas_place p k k 0 k).bind λl=>kas_bin f (bubble p k (k-l)) (k+1))=p'
   rw[X9,Y];exact F
  .show P3 lt P ((kas_place p k k 0 k).bind λl=>kas_bin f (bubble p k (k-l)) (k+1))
   exact P5 D (by rw[Y];exact b3)
theorem bW4 (O:Ord lt)(h1:1<=N):∃p',ev lt (kas_sort N)=p'/\p'.Perm (List.toArray (List.range N))/\Srt lt p' N/\P3 lt (λi=>i<N) (kas_sort N):=by
 have F:∀j,j<N->g (List.toArray (List.range N)) j<N:=λj B=>by
  rw[aP6];simp[B]
 obtain⟨m,s,e,z,a2,a3,Y,J,X⟩:=cU4 O (P:=λi=>i<N) (p:=List.toArray (List.range N)) (N:=N) h1 (by simp) F
 have z1:N<=s.size:=by rw[z.size_eq];simp
 unfold kas_sort;by_cases w:m<N
 .have U:max m 1=m:=by lia
  obtain⟨p',M,R,Q,D⟩:=cJ6 O (P:=λi=>i<N) (N:=N) (N-m) s m (by lia) z1 J Y
  refine⟨p',?_,R.trans z,Q,P5 X ?_⟩
  .rw[X9,e];dsimp only;rw[Ae w,U];exact M
  .rw[e];dsimp only;rw[Ae w,U];exact D
 .have:m=N:=by lia
  refine⟨s,?_,z,this▸Y,P5 X ?_⟩
  .rw[X9,e];dsimp only;rw[Ac w];rfl
  .rw[e];dsimp only;rw[Ac w];exact trivial
end
end LS
namespace LV
open PySem PySem.Spec PyProof.Rows L2 PySem.W Att
section
variable {P:Program}{w:World}{A:Around}{s:Shared}{Q:Bool->Shared->Prop}
theorem aJ7 (a b:Int)(as bs:List Int):HT.X1 (a::as) (b::bs)=if a=b then HT.X1 as bs else decide (a<b):=rfl
theorem v9:∀{xs ys:List Value} {as bs:List Int} (i:Nat),IntsAre xs as->IntsAre ys bs->Q (HT.X1 as bs) s->KatLex P w A true (decide (as.length<bs.length)) Q (xs.zip ys) i s
 | _,_,_,_,i,.nil,.nil,h=>h
 | _,_,_,_,i,.nil,@IntsAre.cons n t vs ns r,h=>by
  have e:decide (([]:List Int).length<(n::ns).length)=true:=by simp
  show Q (decide (([]:List Int).length<(n::ns).length)) s
  rw[e];exact h
 | _,_,_,_,i,@IntsAre.cons n t vs ns r,.nil,h=>by
  have e:decide ((n::ns).length<([]:List Int).length)=false:=by simp
  show Q (decide ((n::ns).length<([]:List Int).length)) s
  rw[e];exact h
 | _,_,_,_,i,@IntsAre.cons a t xs as ra,@IntsAre.cons b u ys bs rb,h=>by
  rw[aJ7]at h;refine kat_cons ?_;refine SeqAt.EqAt.int_int a t b u P w _ _ ?_;by_cases e:a=b
  .subst e;rw[Ae rfl]at h
   have:(a==a)=true:=by simp
   rw[this];refine kat_yes ?_;have e2:decide ((a::as).length<(a::bs).length)=decide (as.length<bs.length):=by simp
   rw[e2];exact v9 (i+1) ra rb h
  .rw[Ac e]at h
   have:(a==b)=false:=by simpa using e
   rw[this];refine kat_no ?_;cases hb:(true&&i==0) with
   | true=>exact oneLt_int h
   | false=>exact kat_one _ _ (lt_int h)
theorem aY0:∀a b:List Int,HT.X1 a b=true->HT.X1 b a=false
 | [],[],h=>by cases h
 | [],_::_,_=>rfl
 | _::_,[],h=>by cases h
 | x::xs,y::ys,h=>by
  rw[aJ7]at h ⊢;by_cases e:x=y
  .subst e;rw[Ae rfl]at h ⊢;exact aY0 xs ys h
  .rw[Ac e]at h;rw[Ac (λz=>e z.symm)]
   have:=Ax h
   exact Aq (by lia)
def E8 (a b:List Int):Prop:=HT.X1 b a=false
theorem aA5:∀a b c:List Int,E8 a b->E8 b c->E8 a c
 | [],_,[],_,_=>rfl
 | [],_,_::_,_,_=>rfl
 | _::_,[],_,h,_=>by cases h
 | _::_,_::_,[],_,h=>by cases h
 | x::xs,y::ys,z::zs,h1,e=>by
  unfold E8 at *;rw[aJ7]at *;by_cases Y:y=x
  .subst Y;rw[Ae rfl]at h1;by_cases m:z=y
   .subst m;rw[Ae rfl]at e ⊢;exact aA5 xs ys zs h1 e
   .rw[Ac m]at e ⊢;exact e
  .rw[Ac Y]at h1;have h1:=Bu h1;by_cases m:z=y
   .subst m;rw[Ac Y];exact Aq h1
   .rw[Ac m]at e;have e:=Bu e;rw[Ac (by lia)]
    exact Aq (by lia)
theorem u6:∀a b:List Int,E8 a b->E8 b a->a=b
 | [],[],_,_=>rfl
 | [],_::_,_,h=>by cases h
 | _::_,[],h,_=>by cases h
 | x::xs,y::ys,h1,m=>by
  unfold E8 at *;rw[aJ7]at *;by_cases e:x=y
  .subst e;rw[Ae rfl]at h1 m;rw[u6 xs ys h1 m]
  .rw[Ac (λz=>e z.symm)]at h1
   rw[Ac e]at m;have h1:=Bu h1;have m:=Bu m
   lia
theorem bA7 (a b:List Int):E8 a b\/E8 b a:=by
 unfold E8;cases h:HT.X1 b a with
 | false=>exact .inl rfl
 | true=>exact .inr (aY0 b a h)
theorem cB0 (ts:Nat->List Int):LS.Ord λi j=>HT.X1 (ts i) (ts j):=
 ⟨λa b h=>aY0 _ _ h,λa b c h1 e=>aA5 _ _ _ h1 e⟩
def TupsAt (h:Heap):List Value->List (List Int)->Prop
 | [],[]=>True
 | v::vs,t::ts=>(∃a its,v=.ref a/\IsTup h a its/\IntsAre its.toList t/\t≠[])/\TupsAt h vs ts
 | _,_=>False
theorem TupsAt.length {h:Heap}:∀{vs:List Value} {ts:List (List Int)},TupsAt h vs ts->vs.length=ts.length
 | [],[],_=>rfl
 | _::_,_::_,r=>by simp[TupsAt.length r.2]
 | [],_::_,r=>r.elim
 | _::_,[],r=>r.elim
theorem TupsAt.get:∀{vs:List Value} {ts:List (List Int)} {i:Nat},TupsAt h vs ts->i<ts.length->∃a its,vs.getD i .none=.ref a/\IsTup h a its/\IntsAre its.toList (ts.getD i [])
 | v::vs,t::ts,0,⟨⟨a,its,e,h1,h2,_⟩,_⟩,_=>⟨a,its,e,h1,h2⟩
 | v::vs,t::ts,i+1,⟨_,r⟩,hi=>TupsAt.get (i:=i) r (by simpa using hi)
 | [],[],_,_,hi=>by simp at hi
 | [],_::_,_,r,_=>r.elim
 | _::_,[],_,r,_=>r.elim
theorem TupsAt.keep:∀{vs:List Value} {ts:List (List Int)},TupsAt h vs ts->(∀a its,Value.ref a∈vs->IsTup h a its->IsTup h' a its)->TupsAt h' vs ts
 | [],[],_,_=>trivial
 | v::vs,t::ts,⟨⟨a,its,e,h1,h2,h3⟩,r⟩,k=>⟨⟨a,its,e,k a its (by rw[e];simp) h1,h2,h3⟩,r.keep λa its ha=>k a its (Ad4 _ ha)⟩
 | [],_::_,r,_=>r.elim
 | _::_,[],r,_=>r.elim
theorem TupsAt.kat:∀{vs:List Value} {ts:List (List Int)},TupsAt h vs ts->∃fs,KatTups h vs fs/\fs.length=vs.length/\∀f∈fs,∃i t,f=Value.int i t
 | [],[],_=>⟨[],.nil,rfl,by simp⟩
 | v::vs,t::ts,⟨⟨a,its,e,⟨o,ho,hc,n,hd⟩,h2,h3⟩,r⟩=>by
  obtain⟨fs,k1,k2,k3⟩:=r.kat;subst e;obtain⟨l⟩:=its;cases h2 with
  | nil=>exact absurd rfl h3
  | cons i u r'=>
   refine⟨.int i u::fs,.cons ho hc hd (by simp) k1,by simp[k2],λf hf=>?_⟩
   rcases Aa1.mp hf with rfl | hf
   .exact⟨_,_,rfl⟩
   .exact k3 f hf
 | [],_::_,r=>r.elim
 | _::_,[],r=>r.elim
end
section
variable {P:Program}{w:World}{A:Around}{s:Shared}{E:Ef}
theorem bK4 (hL:s.heap.Ns L m)(hl:s.heap.IsList l vs.toArray)(ht:TupsAt s.heap vs ts)(J:∀a,Value.ref a∈vs->a≠L)(h2:2<=vs.length)(h64:vs.length<64)
  (h:∀h' D (p:List Nat) c,h'.Ns L m->(∀b o,b≠L->s.heap.get? b=some o->h'.get? b=some o)->s.heap.get? D=none->h'.get? D=some {cls:=.type "list",data:=.seq (p.map λi=>vs.getD i .none).toArray c}->p.Perm (List.range vs.length)->(p.map λi=>ts.getD i []).Pairwise E8->Q (.ref D) {s with heap:=h'}) :
  wpAny (model P w) A (call (.builtin "sorted") [.ref l]) Q E s:=by
 have hlen:=ht.length
 refine kat_sorted (cO7 hL) bM8 hl h2 h64 λD e1 h' F' N' hD=>?_
 have kp:∀b o,b≠L->s.heap.get? b=some o->h'.get? b=some o:=λb o hb e=>(N' (b,o) (Ad4 _ (P7 hb (O9 _ _) e))).1
 have DL:D≠L:=(N' _ Aj).2.1
 have hDs:s.heap.get? D=none:=by
  cases e:s.heap.get? D with
  | none=>rfl
  | some o=>exact absurd (hD (D,o) (P7 DL (O9 _ _) e)) (Ad9 _)
 have Y:TupsAt h' vs ts:=ht.keep λa its ha ⟨o,e,r⟩=>⟨o,kp a o (J a ha) e,r⟩
 obtain⟨fs,k1,k2,k3⟩:=Y.kat;refine kat_kind (s:={s with heap:=h'}) k1 (by lia) (T:=.type "int") (λv hv=>?_) (by decide) ?_
 .obtain⟨i,t,rfl⟩:=k3 v hv;exact λA Q E s _ q=>wpAny_of_eq (show typeOf (Value.int i t)=pure (.type "int") from rfl) q
 have et:(Value.type "int" != Value.type "tuple")=true:=by decide
 rw[et];obtain⟨F,e0,hp,hs,ha⟩:=LS.bW4 (cB0 λi=>ts.getD i []) (N:=vs.length) (by lia)
 refine LS.cN7 (P:=λi=>i<vs.length) (lt:=λi j=>HT.X1 (ts.getD i []) (ts.getD j [])) (λi j C hi hj hC=>?_) _ ha ?_
 .obtain⟨a,its,e,⟨o,h1,c1,n1,d1⟩,r1⟩:=Y.get (i:=i) (by lia)
  obtain⟨a',R,e',⟨o',h1',c1',n1',d1'⟩,B⟩:=Y.get (i:=j) (by lia)
  unfold kas_ask;rw[e,e'];refine kat_lt (s:={s with heap:=h'}) h1 d1 h1' d1' ?_
  have el:decide (its.size<R.size)=decide ((ts.getD i []).length<(ts.getD j []).length):=by
   have a1:=r1.length;have a2:=B.length
   simp only[Am]at a1 a2;rw[a1,a2]
  rw[el];exact v9 0 r1 B hC
 .rw[e0];refine KasFin.intro F' N' (.head λp hp z=>?_) λU c F'' X=>?_
  .have:=hD p hp
   rw[z]at this;exact absurd this (Ad9 _)
  .have kp2:∀b o,b≠L->s.heap.get? b=some o->U.get? b=some o:=λb o hb e=>(X (b,o) (Ad4 _ (P7 hb (O9 _ _) e))).1
   have M:F.toList.Perm (List.range vs.length):=by simpa using(Array.perm_iff_toList_perm.mp hp)
   refine h U D F.toList c F''.ns kp2 hDs (X _ Aj).1 M ?_;rw[Ae0,List.pairwise_iff_getElem];intro i j hi hj hij;have hz:F.toList.length=vs.length:=by rw[M.length_eq];simp
   have:=hs i j (Cq hij) (by lia)
   unfold LS.le at this;rw[LS.aP6,LS.aP6]at this;have hi':i<F.size:=by simpa using hi
   have hj':j<F.size:=by simpa using hj
   simp only[Af hi',Af hj',Option.getD_some]at this;unfold E8;simpa using this
theorem p8 (ho:s.heap.get? a=some (seqObj "list" vs.toArray n))(J:vs.length<2)
  (h:P' (.done (.ret .none)) {s with heap:=sortedHeap s.heap a vs vs.toArray}):wpAny (model P w) A (Builtin.«list.sort» ⟨[.ref a],[]⟩) P' E s:=by
 rw[list_sort_plain];have M:a<s.heap.objs.size:=Ab3 ho;refine Aa (listItems_at ho rfl ?_);refine Aa (listUpdate_at ho rfl ?_);obtain⟨X,z⟩:∃X,(s.heap.update a (Obj.mapSeq λ_ => #[])).get? a=some (seqObj "list" #[] X):=⟨_,get?_update_seq ho (λ_ => #[])⟩
 refine Aa (seqEpoch_at z rfl ?_);refine Aa (wpAny_newTuple ?_);refine Aa (wpAny_newList ?_);refine Bk ?_;have m:(((s.heap.update a (Obj.mapSeq λ_ => #[])).push (seqObj "tuple" vs.toArray 0)).push (seqObj "list" #[] 0)).get? a=some (seqObj "list" #[] X):=by
  rw[Heap.get?_push_ne _ _ _ (by rw[size_push',Heap.size_update];exact Ab9 (Ct M)),Heap.get?_push_ne _ _ _ (by rw[Heap.size_update];exact Ab9 M)]
  exact z
 show wpAny (model P w) A _ P' E {s with heap:=((s.heap.update a (Obj.mapSeq λ_ => #[])).push (seqObj "tuple" vs.toArray 0)).push (seqObj "list" #[] 0)}
 dsimp only
 have Y:vs.toArray.size<2:=by simpa using J
 rw[Ae Y,Ae Y];refine Aa (Ab ?_);rw[StateT.run_pure];refine Aa (Ab ?_);dsimp only;refine Aa (seqEpoch_at m rfl ?_);refine Aa (listUpdate_at m rfl ?_ (hsz2:=by rw[Array.size_map];show(pairsOf vs).size<=_;rw[pairsOf_size,Cu];lia))
 simp only[bne_self_eq_false,Av,if_false];refine Ab ?_;have e:(arrOf (SortSt.mk' general' (vs.toArray.zip vs.toArray) #[] 7 none)).map (·.2)=vs.toArray:=by
  show(vs.toArray.zip vs.toArray).map (·.2)=vs.toArray
  refine Array.ext (by simp) λi h1 J=>by simp
 have U:=h
 unfold sortedHeap at U;rw[e];exact U
theorem bG5 (X:s.heap.IsList l vs.toArray)(Y:vs.length<2)
  (h:Q (.ref (s.heap.objs.size+1)) {s with heap:=sortedAll s.heap vs vs.toArray}):wpAny (model P w) A (call (.builtin "sorted") [.ref l]) Q E s:=by
 refine Calls.call_function_entry kind_sorted plain_sorted entry_sorted (args_sorted1 _) ?_;unfold Builtin.«sorted»;refine Aa (m:=checkCount "sorted" 1 1 _) (Ab ?_);refine Aa (collect_list X ?_ (by rw[Cu];lia))
 refine Aa (wpAny_newList ?_ (by rw[Cu];lia))
 have z:((s.heap.push (seqObj "list" #[] 0)).update s.heap.objs.size (Obj.mapSeq (· ++ vs.toArray))).objs.size=s.heap.objs.size+1:=by
  rw[Heap.size_update,size_push']
 have e:(((s.heap.push (seqObj "list" #[] 0)).update s.heap.objs.size (Obj.mapSeq (· ++ vs.toArray))).push (seqObj "list" vs.toArray 0)).get? (s.heap.objs.size+1)=some (seqObj "list" vs.toArray 0):=by
  rw[<- z];exact Ac3 _ rfl
 show wpAny _ _ _ _ _ {s with heap:=((s.heap.push (seqObj "list" #[] 0)).update s.heap.objs.size (Obj.mapSeq (· ++ vs.toArray))).push (seqObj "list" vs.toArray 0)}
 rw[z];refine Aa (Bk (Bf slot_list_sort ⟨_,e,rfl⟩ entry_list_sort (p8 e Y ⟨_,rfl,?_⟩) (args_list_sort _)));exact Ab ⟨_,rfl,h⟩
end
section
variable {X:Cx}
theorem bL0:∀(o:HO),ObjOk P w H h a o->∃u,h.get? a=some u
 | .lst _,⟨_,its,n,_,e⟩=>⟨_,e⟩
 | .tup _,⟨_,its,_,o,e,_⟩=>⟨_,e⟩
 | .dK _,⟨_,_,vs,_,o,s,n,e,_⟩=>⟨_,e⟩
 | .dT _,⟨_,_,xs,_,o,s,m,e,_⟩=>⟨_,e⟩
 | .set _ _,⟨o,s,m,t,e,_⟩=>⟨_,e⟩
 | .ins _ _ _,⟨_,_,_,e,_⟩=>⟨_,e⟩
 | .own _,e=>e
 | .xd _,⟨Y,⟨o,h1⟩,_⟩=>by
  first
  | exact⟨_,h1.1⟩
  | (obtain⟨_,_,z,_⟩:=h1;exact⟨_,z⟩)
  | (obtain⟨_,z,_⟩:=h1;exact⟨_,z⟩)
 | .met _ _,e=>⟨_,e⟩
 | .rng _ _,⟨_,_,_,e⟩=>⟨_,e⟩
 | .frz _ _,⟨e,_⟩=>⟨_,e⟩
 | .tbl _,e=>⟨_,e⟩
 | .ext _,⟨_,e,_⟩=>e
theorem aD9 {aA:Eg}{σ:L2.St}{H:Hp}{s:Shared}{h':Heap}{m:Str->Option Value}{D:Addr}{ys:List V}{its:List Value}{c:Nat}(I:Inv X aA σ H s)(P:s.heap.Ns X.env.locals m)(J:h'.Ns X.env.locals m)(kp:∀b o,b≠X.env.locals->s.heap.get? b=some o->h'.get? b=some o)
  (F:s.heap.get? D=none) (e:h'.get? D=some {cls:=.type "list",data:=.seq its.toArray c}) (rv:Vals ys its) (hz:ys.length<=sizeLine):H D=none/\Inv X aA σ (upd H D (.lst ys)) {s with heap:=h'}:=by
 have Q:H D=none:=by
  cases q:H D with
  | none=>rfl
  | some o=>obtain⟨u,B⟩:=bL0 o (I.hok D o q);rw[F]at B;cases B
 have nD:∀b o,s.heap.get? b=some o->b≠D:=λb o q z=>by rw[z,F]at q;cases q
 have M:∀b o,H b=some o->b≠D:=λb o q z=>by rw[z,Q]at q;cases q
 refine⟨Q,?_⟩;refine I.step (g':=s.gens) (d':=s.drawn) (t':=s.toks) (ch:=[]) (by simp) (λb o w _ _ q _=>kp b o w q) (λb o w _ _ q _=>⟨o.slots,kp b o w q⟩) (λb o _ q n=>by rw[B0 (nD b o q)];exact n) (λb o _ q=>?_)
  (λb xs q=>by rw[B0 (M b _ q)];exact q) (λb o u q=>by rw[B0 (M b _ q)];exact q) (λb ps q=>⟨#[],by rw[B0 (M b _ q)];simpa using q⟩) (λm' N=>?_) (λb o q=>?_) I.bare
 .by_cases w:b=X.env.locals
  .subst w;obtain⟨o',_,_,R,_⟩:=J;exact⟨o',R⟩
  .exact⟨o,kp b o w q⟩
 .rw[N.eq_nsMap,<- P.eq_nsMap];exact J
 .by_cases w:b=D
  .subst w;rw[B3]at q;cases q;exact⟨hz,its,c,rv,e⟩
  .rw[B0 w]at q;refine(I.hok b o q).stay (λU v hc Y=>kp U v ?_ Y) (λU Y=>by rw[B0 (M U _ Y)];exact Y) λU xs Y=>by rw[B0 (M U _ Y)];exact Y
   rcases hc with z | z
   .rw[z];exact E2 q I.free
   .exact E2 z I.free
end
def TupsV (K:Frag)(H:Hp):List V->List (List Int)->Prop
 | [],[]=>True
 | v::vs,t::ts=>(∃a,v=.ref a/\SqT K H a (t.map V.int)/\t≠[])/\TupsV K H vs ts
 | _,_=>False
theorem TupsV.length {K:Frag}{H:Hp}:∀{vs:List V} {ts:List (List Int)},TupsV K H vs ts->vs.length=ts.length
 | [],[],_=>rfl
 | _::_,_::_,r=>by simp[TupsV.length r.2]
 | [],_::_,r=>r.elim
 | _::_,[],r=>r.elim
section
variable {X:Cx}{aA:Eg}{σ:L2.St}{H:Hp}{s:Shared}
theorem dA6 (I:Inv X aA σ H s)(h:SqT X.K H a xs):a≠X.env.locals:=by
 rcases h with (h | ⟨o,h⟩) | ⟨o,its,n,e,_⟩
 .exact E2 h I.free
 .exact E2 h I.free
 .have:=Ab3 (I.mod.kin a o e)
  exact Ab9 (Ab8 this (Bi I.ok.bsz I.ok.above))
theorem aP7 (I:Inv X aA σ H s):∀{vs:List V} {ts:List (List Int)} {us:List Value},TupsV X.K H vs ts->Vals vs us->TupsAt s.heap us ts/\∀a,Value.ref a∈us->a≠X.env.locals
 | [],[],_,_,r=>by cases r;exact⟨trivial,λa h=>by simp at h⟩
 | v::vs,t::ts,_,⟨⟨a,e,sq,ne⟩,h⟩,r=>by
  subst e;cases r with
  | cons z m=>
   cases z
   obtain⟨h1,w⟩:=aP7 I h m;obtain⟨its,Y,p,_⟩:=I.tuple sq;refine⟨⟨⟨a,its.toArray,rfl,p,by simpa using S1 Y,ne⟩,h1⟩,λb hb=>?_⟩
   rcases Aa1.mp hb with e | hb
   .cases e;exact dA6 I sq
   .exact w b hb
 | [],_::_,_,h,_=>h.elim
 | _::_,[],_,h,_=>h.elim
theorem aB7 (r:Vals vs us):∀{q:List Nat},(∀i∈q,i<vs.length)->Vals (q.map λi=>vs.getD i .non) (q.map λi=>us.getD i .none)
 | [],_=>.nil
 | i::q,h=>by
  have hi:=h i (by simp)
  obtain⟨u,h1,z⟩:=r.get (i:=i) (x:=vs[i]) (Aa2 hi);refine .cons ?_ (aB7 r λj m=>h j (by simp[m]))
  have e:vs.getD i .non=vs[i]:=by simp[List.getD,hi]
  have w:us.getD i .none=u:=by simp[List.getD,h1]
  show RelV (vs.getD i .non) (us.getD i .none)
  rw[e,w];exact z
end
section
variable {X:Cx}
theorem W6 (K:Frag)(h:X.K=K:=by rfl):P6 X (.builtin "sorted") (λxs H Q=>∃(p:Addr) (ys:List V) (ts:List (List Int)),xs=[.ref p]/\SqL K H p ys/\TupsV K H ys ts/\ys.length<64 /\
  ∀a (q:List Nat),H a=none->q.Perm (List.range ys.length)->(q.map λi=>ts.getD i []).Pairwise E8->Q (.ref a) (upd H a (.lst (q.map λi=>ys.getD i .non)))):=by
 subst h;intro aA s σ H xs us Q I r ⟨p,ys,ts,e,hq,B,h64,q⟩;subst e;obtain⟨u,rfl,rx⟩:=T1 r;cases rx;obtain⟨its,U,P,hz⟩:=I.list hq;have z:=U.length;have htl:=B.length;by_cases Y:its.length<2
 .refine bG5 P.isList Y ?_;obtain⟨e,he⟩:=sortedAll_at s.heap its its.toArray;have fin:=q (s.heap.objs.size+1) (List.range ys.length) (I.hok.fresh (Nat.le_succ _)) (.refl _) (by
   rw[z]
   match its.length,Y with
   | 0,_=>simp
   | 1,_=>simp[Cn])
  have J:((List.range ys.length).map λi=>ys.getD i .non)=ys:=by
   refine List.ext_getElem (by simp) λi h1 Y=>?_
   simp[List.getD,Y]
  rw[J]at fin;exact⟨.ref _,_,I.laid (t':=s.toks) (λb o e=>sortedAll_old e) (Nat.le_succ _) (show ObjOk X.prog X.w _ _ _ (.lst ys) from⟨hz,its,e,U,he⟩),rfl,fin⟩
 .obtain⟨m,F,_⟩:=I.loc;obtain⟨ta,tl⟩:=aP7 I B U;refine bK4 F P.isList ta tl (by lia) (by lia) λh' D pp c M kp hD J hp hs=>?_
  have N:∀i∈pp,i<ys.length:=λi hi=>by have:=Ab5.mp (hp.mem_iff.mp hi);lia
  have R:=aB7 U N
  obtain⟨HD,I'⟩:=aD9 I F M kp hD J R (by rw[Aa3,hp.length_eq,Bs];lia)
  exact⟨.ref D,_,I',rfl,q D pp HD (by rw[z];exact hp) hs⟩
end
end LV
namespace LV
open PySem L2
section
variable {K:Frag}{ρ ρ' ρ1:List Sl}{m m':Bool}{t ta tb tc:TE}{d d':PyData}{ds es:List PyData}
abbrev lI (l:List Int):PyData:=.list (l.map .int)
abbrev tI (l:List Int):PyData:=.tuple (l.map .int)
theorem O0:∀l:List Int,G5 (l.map .int)=true
 | []=>rfl
 | _::l=>by simp[G5,imm,O0 l]
theorem e7 {α:Type}{f:α->PyData}(h:∀a,imm (f a)=true):∀l:List α,G5 (l.map f)=true
 | []=>rfl
 | a::l=>by simp[G5,h a,e7 h l]
theorem l8 (l:List Int):imm (tI l)=true:=by simp[imm,O0 l]
theorem bG8:∀{l:List PyData},(∀d∈l,imm d=true)->G5 l=true
 | [],_=>rfl
 | a::l,h=>by simp[G5,h a (by simp),bG8 (l:=l) λd hd=>h d (by simp[hd])]
theorem cA8 (i:Int):Fit (.int i):=⟨rfl,by simp[PyData.depth]⟩
def FitN (n:Nat)(d:PyData):Prop:=d.canLay0=true/\d.depth<=n
theorem cH0 (n:Nat)(i:Int):FitN n (.int i):=⟨rfl,by simp[PyData.depth]⟩
theorem aW0:∀{l:List PyData},(∀d∈l,FitN n d)->PyData.canLayAll0 l=true/\PyData.depthAll l<=n
 | [],_=>⟨rfl,by simp[PyData.depthAll]⟩
 | a::l,h=>by
  obtain⟨h1,h2⟩:=h a (by simp)
  obtain⟨h3,h4⟩:=aW0 (l:=l) λd e=>h d (by simp[e])
  exact⟨by simp[PyData.canLayAll0,h1,h3],by simp only[PyData.depthAll];lia⟩
theorem bK3 (h:∀d∈l,FitN n d):FitN (n+1) (.tuple l):=by
 obtain⟨a,b⟩:=aW0 h;exact⟨by simpa[PyData.canLay0]using a,by simp only[PyData.depth];lia⟩
theorem aL0 (h:∀d∈l,FitN n d):FitN (n+1) (.list l):=by
 obtain⟨a,b⟩:=aW0 h;exact⟨by simpa[PyData.canLay0]using a,by simp only[PyData.depth];lia⟩
theorem FitN.fit (h:FitN n d)(e:n<=32:=by decide):Fit d:=⟨h.1,Bi h.2 e⟩
theorem bL6 (l:List Int):∀d∈l.map PyData.int,FitN 0 d:=λd e=>by
 obtain⟨i,_,rfl⟩:=Aa8.mp e;exact cH0 0 i
theorem M8 (l:List Int):FitN 1 (tI l):=bK3 (bL6 l)
theorem dS2 (w:E K false ta ρ d)(z:E K false tb ρ d')(h1:Fit d)(e:Fit d'):E K m (tOp (bQ3 K false) ta tb) ρ (.bool (PyData.eqv d d')):=
 bT6 false false w z λS H x y Q _ s Y q=>⟨d,d',s,Y,h1,e,q _ H (L2.Same.rf _) (.bl _)⟩
theorem bA8 (w:E K false ta ρ d)(z:E K false tb ρ d')(h1:Fit d)(e:Fit d'):E K m (tOp (bQ3 K true) ta tb) ρ (.bool (!PyData.eqv d d')):=
 bT6 false false w z λS H x y Q _ s Y q=>⟨d,d',s,Y,h1,e,q _ H (L2.Same.rf _) (.bl _)⟩
theorem aV3 (w:E K false ta ρ d)(s:E K false tb ρ d')(Y:sq d'=some ds)(h1:Fit d)(e:Fit d'):E K m (tOp (cS2 K false) ta tb) ρ (.bool (ds.any λz=>PyData.eqv z d)):=
 bT6 false false w s λS H x y Q _ X U q=>⟨d,d',ds,X,U,Y,h1,e,q _ H (L2.Same.rf _) (.bl _)⟩
theorem a8 (w:E K false ta ρ d)(s:E K false tb ρ d')(Y:sq d'=some ds)(h1:Fit d)(e:Fit d'):E K m (tOp (cS2 K true) ta tb) ρ (.bool (!ds.any λz=>PyData.eqv z d)):=
 bT6 false false w s λS H x y Q _ X U q=>⟨d,d',ds,X,U,Y,h1,e,q _ H (L2.Same.rf _) (.bl _)⟩
theorem o9 [DecidableEq α](h:∀a b,PyData.eqv (f a) (f b)=decide (a=b)):∀l l':List α,PyData.eqvAll (l.map f) (l'.map f)=decide (l=l')
 | [],[]=>by simp[PyData.eqvAll]
 | [],_::_=>by simp[PyData.eqvAll]
 | _::_,[]=>by simp[PyData.eqvAll]
 | a::l,b::l'=>by
  simp only[Ac7,PyData.eqvAll,h,o9 h l l',Bd];by_cases e:a=b <;> simp[e]
theorem bI6 (a b:Int):PyData.eqv (.int a) (.int b)=decide (a=b):=by
 simp only[PyData.eqv];by_cases h:a=b <;> simp[h]
theorem Y8 (l l':List Int):PyData.eqv (tI l) (tI l')=decide (l=l'):=by
 simp only[PyData.eqv];exact o9 bI6 l l'
theorem cC9 (r:Rep K H p (lI l)):∃a,p=.ref a/\SqL K H a (l.map V.int):=by
 cases r with
 | lst s r=>rw[<- r.ints];exact⟨_,rfl,s⟩
theorem dQ8 {t:TA}{l:List Int}{M:Int}(Y:A K false t ρ [lI l])(e:M∈l/\∀a∈l,M<=a):E K m (tCB (λxs H Q=>∃(p:Addr) (l:List Int),xs=[.ref p]/\SqL K H p (l.map V.int)/\l≠[]/\∀M,M∈l->(∀a∈l,M<=a)->Q (.int M) H) t) ρ (.int M):=cS0 Y λH vs Q r q=>by
 cases r with
 | cons a b=>
  cases b
  obtain⟨p,rfl,s⟩:=cC9 a;refine⟨p,l,rfl,s,List.ne_nil_of_mem e.1,λw h1 z=>?_⟩
  have:w=M:=Int.le_antisymm (z M e.1) (e.2 w h1)
  rw[this];exact q _ λ_=>.int _
abbrev lB (l:List Bool):PyData:=.list (l.map .bool)
theorem Reps.bools:∀{l:List Bool} {vs:List V},Reps K H vs (l.map PyData.bool)->vs=l.map V.bl
 | [],_,r=>by cases r;rfl
 | i::l,_,r=>by
  cases r with
  | cons a b=>cases a;rw[Reps.bools b];rfl
theorem dQ2 {t:TA}{l:List Bool}(e:A K false t ρ [lB l]):E K m (tCB (λxs H Q=>∃(p:Addr) (l:List Bool),xs=[.ref p]/\SqL K H p (l.map V.bl)/\Q (.bl (l.all id)) H) t) ρ (.bool (l.all id)):=cS0 e λH vs Q r q=>by
 cases r with
 | cons a b=>
  cases b
  cases a with
  | lst s r=>rw[r.bools]at s;exact⟨_,l,rfl,s,q _ λ_=>.bl _⟩
theorem cI5 (Y:E K false ta ρ (lI l))(X:E K false tb ρ (.int k))(U:k∈l) :
  E K m (tBM K "list" (λx xs H Q=>∃(p:Addr) (l:List Int) (k:Int),x=.ref p/\xs=[.int k]/\SqL K H p (l.map V.int)/\k∈l/\Q (.int (l.idxOf k)) H) ta (G1 tb V7)) ρ (.int (l.idxOf k)):=E.bor (E.imm (m:=false) λS B σ H o I Q q=>Y S B σ H o I _ λv H1 e r=>by
 obtain⟨p,rfl,s⟩:=cC9 r;refine⟨.inl ⟨rfl,_,s⟩,?_⟩;refine X S B σ H1 o (I.grow e) _ λu z w J=>?_
 cases J
 exact⟨p,l,k,rfl,rfl,O5 w s,U,q _ z (L2.Same.tr e w) (.int _)⟩)
theorem aA0 {S:Addr->Prop}{H1:Hp}{p:Addr}{xs:List V}(w:∀b,S b->∃u:HM,H1 b=some u.ho)(hp:H1 p=none)(r:Reps K H1 xs ds)(hi:G5 ds=true):Reps K (hid (λb=>S b\/b=p) (upd H1 p (.lst xs))) xs ds:=
 aJ5 (λa X q=>W7 (λb z=>by
  rcases z with z | z
  .obtain⟨Y,e⟩:=w b z;exact⟨Y,by rw[B0 (λs=>by rw[s,hp]at e;cases e)];exact e⟩
  .exact⟨.l xs,by rw[z];exact B3⟩) (O7 (D1 hp) q)) ds hi r
theorem cN9 {r:List V->Hp->VK->Prop}{t:TA}(w:A K false t ρ ds)(hi:G5 es=true)(hr:∀(H:Hp) (vs:List V) (Q:VK),Reps K H vs ds->(∀p xs,H p=none->Reps K H xs es->Q (.ref p) (upd H p (.lst xs)))->r vs H Q):EF K (tCB r t) ρ es:=λS B σ H o I Q q=>
 w S B σ H o I _ λvs H1 e rs=>hr H1 vs Q rs λp xs hp z=>q p xs _ (L2.Same.tr e (D1 hp)) (O4 e hp) B3 (aA0 (I.grow e).lists hp z hi)
theorem cX8 {t:TA}(z:A K false t ρ [d])(w:sq d=some ds)(hi:G5 ds=true):EF K (tCB (λxs H Q=>∃p ys,xs=[.ref p]/\(SqL K H p ys\/SqT K H p ys)/\∀l,H l=none->Q (.ref l) (upd H l (.lst ys))) t) ρ ds:=cN9 z hi λH vs Q r q=>by
 cases r with
 | cons a b=>
  cases b
  cases a with
  | lst s r=>cases w;exact⟨_,_,rfl,.inl s,λl e=>q l _ e r⟩
  | tup s r=>cases w;exact⟨_,_,rfl,.inr s,λl e=>q l _ e r⟩
  | _=>cases w
theorem Q0 {t:TA}(w:A K false t ρ [.list ds])(hi:G5 ds=true):E K m (tCB (λxs H Q=>∃p ys,xs=[.ref p]/\((SqL K H p ys/\∀l,H l=none->Q (.ref l) (upd H l (.tup ys)))\/(SqT K H p ys/\Q (.ref p) H))) t) ρ (.tuple ds):=E.bor (E.imm (m:=false) (λS B σ H o I Q q=>w S B σ H o I _ λvs H1 z r=>by
 cases r with
 | cons a b=>
  cases b
  cases a with
  | lst s r=>exact⟨_,_,rfl,.inl ⟨s,λl e=>q _ _ (L2.Same.tr z (D1 e)) (.tup (SqT.of B3) (r.mono (D1 e)))⟩⟩) (by simp[imm,hi]))
theorem dH3 {t:TA}{i j:Int}(U:A K false t ρ [.int i,.int j])(J : -(2^62)<=i/\i<2^62 /\ -(2^62)<=j/\j<2^62/\j-i<=1000000) :
  EF K (tCB (λxs H Q=>∃(r:Addr) (i j:Int),xs=[.ref r]/\H r=some (.rng i j)/\(-(2^62)<=i/\i<2^62 /\ -(2^62)<=j/\j<2^62/\j-i<=1000000)/\∀l,H l=none->Q (.ref l) (upd H l (.lst (aD2 i (j-i).toNat)))) (G1 (dF6 t) V7)) ρ (Z6 i (j-i).toNat):=λS B σ H o I Q q=>
 U S B σ H o I _ λvs H1 z r=>by
  cases r with
  | cons a b=>
   cases a
   cases b with
   | cons a b=>
    cases a;cases b
    refine⟨i,j,rfl,λp hp=>⟨p,i,j,rfl,B3,J,λl w=>?_⟩⟩
    have e:=D1 (o:=.rng i j) hp
    have X:=D1 (o:=.lst (aD2 i (j-i).toNat)) w
    refine q l _ _ (L2.Same.tr z (L2.Same.tr e X)) (O4 (L2.Same.tr z e) w) B3 ?_;have s:aD2 i (j-i).toNat=((List.range (j-i).toNat).map λ(k:Nat)=>i+(k:Int)).map V.int:=by simp[aD2]
    have Y:Z6 i (j-i).toNat=((List.range (j-i).toNat).map λ(k:Nat)=>i+(k:Int)).map PyData.int:=by simp[Z6]
    rw[s,Y];exact M0 _
theorem dJ5 (X:E K false ta ρ (.list ds))(hi:G5 ds=true):EF K (cB3 K ta) ρ ds.reverse:=λS B σ H o I Q q=>
 X S B σ H o I _ λv H1 Y r=>by
  cases r with
  | lst s r=>
   refine⟨_,_,rfl,s,λl w=>q l _ _ (L2.Same.tr Y (D1 w)) (O4 Y w) B3 (aA0 (I.grow Y).lists w r.reverse ?_)⟩
   refine bG8 λd e=>?_
   have:∀{l:List PyData},G5 l=true->∀d∈l,imm d=true:=λ{l}=>by
    induction l with
    | nil=>simp
    | cons a l U=>intro h d e;simp[G5]at h;rcases Aa1.mp e with rfl | z;exact h.1;exact U h.2 d z
   exact this hi d (Dt.mp e)
end
def OT.kids:OT->List OT
 | .leaf _ | .dic _=>[]
 | .tup ts=>ts
 | .lst ts=>ts
def OT.at:List Nat->OT->Option OT
 | [],t=>some t
 | k::π,t=>(t.kids[k]?).bind (OT.at π)
def OT.put (t:OT)(π:List Nat)(u:OT):OT:=match π with
 | []=>u
 | k::π=>match t with
  | .lst ts=>.lst (ts.modify k λt=>OT.put t π u)
  | .tup ts=>.tup (ts.modify k λt=>OT.put t π u)
  | .leaf d=>.leaf d
  | .dic d=>.dic d
theorem OT.put_nil {t u:OT}:t.put [] u=u:=by rw[OT.put]
theorem OT.put_lst:(OT.lst ts).put (k::π) u=.lst (ts.modify k λt=>OT.put t π u):=by rw[OT.put]
theorem OT.put_tup:(OT.tup ts).put (k::π) u=.tup (ts.modify k λt=>OT.put t π u):=by rw[OT.put]
section
variable {K:Frag}{Z Z' H H':Hp}
theorem P8:∀{l:List α} {k:Nat} {a:α},l[k]? = some a->l.modify k f=l.set k (f a)
 | [],k,a,h=>by simp at h
 | b::l,0,a,h=>by simp at h;subst h;rfl
 | b::l,k+1,a,h=>by
  have:=P8 (f:=f) (l:=l) (k:=k) (a:=a) (by simpa using h)
  simpa using this
theorem bT5:∀{ts:List OT} {xs:List V} {L:List Addr} {k:Nat} {t:OT},Dps K Z H xs ts L->ts[k]? = some t->∃v L1 L2 L3,xs[k]? = some v/\Dp K Z H v t L2/\L=L1++L2++L3 /\
  ∀(Z' H':Hp) (t':OT) (L2':List Addr),Same Z Z'->(∀a xs,Rd H a (.tup xs)->Rd H' a (.tup xs))->(∀b,b∈L1\/b∈L3->H' b=H b)->Dp K Z' H' v t' L2'->Dps K Z' H' xs (ts.set k t') (L1++L2'++L3)
 | [],_,_,_,_,r,h=>by simp at h
 | t::ts,_,_,0,_,r,h=>by
  simp at h;subst h
  cases r with
  | @cons v _ vs _ La Lb a b=>
   refine⟨v,[],La,Lb,rfl,a,rfl,λZ' H' t' L2' hz ht hl r=>?_⟩
   simpa using Dps.cons r (a9 hz ht ts (λb hb=>hl b (.inr hb)) b)
 | t::ts,_,_,k+1,t1,r,h=>by
  cases r with
  | @cons v _ vs _ La Lb a b=>
   obtain⟨w,L1,L2,L3,h1,h2,h3,h4⟩:=bT5 (k:=k) (t:=t1) b (by simpa using h)
   refine⟨w,La++L1,L2,L3,by simpa using h1,h2,by rw[h3];simp,λZ' H' t' L2' hz ht hl r=>?_⟩
   have:=Dps.cons (aA7 hz ht t (λb hb=>hl b (.inl (by simp[hb]))) a) (h4 Z' H' t' L2' hz ht (λb hb=>hl b (by rcases hb with hb | hb <;> simp[hb])) r)
   simpa using this
theorem cX7 {t:OT}{v:V}{L:List Addr}{k:Nat}{t1:OT}(r:Dp K Z H v t L)(h:t.kids[k]? = some t1):(∃a xs ts M,v=.ref a/\t=.tup ts/\SqT K H a xs/\Dps K Z H xs ts L/\ts[k]? = some t1/\M=L)\/∃a xs ts M,v=.ref a/\t=.lst ts/\H a=some (.lst xs)/\Dps K Z H xs ts M/\ts[k]? = some t1/\L=a::M:=by
 cases r with
 | leaf r=>simp[OT.kids]at h
 | dic _ _ _ _=>simp[OT.kids]at h
 | tup s r=>exact .inl ⟨_,_,_,_,rfl,rfl,s,r,h,rfl⟩
 | lst s r=>exact .inr ⟨_,_,_,_,rfl,rfl,s,r,h,rfl⟩
def Foc (K:Frag)(Z H:Hp)(v0:V)(t0:OT)(L0:List Addr)(π:List Nat)(v:V)(t:OT):Prop:=
 ∃L A C,Dp K Z H v t L/\L0=A++L++C/\∀(Z' H':Hp) (t':OT) (L':List Addr),Same Z Z'->(∀a xs,Rd H a (.tup xs)->Rd H' a (.tup xs))->(∀b,b∈A\/b∈C->H' b=H b)->Dp K Z' H' v t' L'->Dp K Z' H' v0 (t0.put π t') (A++L'++C)
theorem Foc.root (r:Dp K Z H v0 t0 L0):Foc K Z H v0 t0 L0 [] v0 t0:=
 ⟨L0,[],[],r,by simp,λZ' H' w L' _ _ _ e=>by rw[OT.put_nil];simpa using e⟩
theorem Foc.mono (f:Foc K Z H v0 t0 L0 π v t)(U:Same Z Z')(X:∀a xs,Rd H a (.tup xs)->Rd H' a (.tup xs))(Y:∀b∈L0,H' b=H b):Foc K Z' H' v0 t0 L0 π v t:=by
 obtain⟨L,A,C,h1,e,N⟩:=f;refine⟨L,A,C,aA7 U X t (λb hb=>Y b (by rw[e];simp[hb])) h1,e,λM J Q L' m s w R=>N M J Q L' (L2.Same.tr U m) (λa xs z=>s a xs (X a xs z)) (λb hb=>?_) R⟩
 rw[w b hb];exact Y b (by rw[e];rcases hb with hb | hb <;> simp[hb])
theorem aG6 {u t1:OT}{k:Nat}:∀{π:List Nat} {t0 t:OT},t0.at π=some t->t0.put π (t.put [k] u)=t0.put (π++[k]) u
 | [],t0,t,h=>by cases h;rw[OT.put_nil];rfl
 | j::π,t0,t,h=>by
  unfold OT.at at h;cases e:t0.kids[j]? with
  | none=>rw[e]at h;cases h
  | some t1=>
   rw[e]at h;have h:t1.at π=some t:=h;cases t0 with
   | leaf d=>simp[OT.kids]at e
   | dic d=>simp[OT.kids]at e
   | lst ts=>
    have e:ts[j]? = some t1:=e
    rw[Ab6,OT.put_lst,OT.put_lst,P8 e,P8 e,aG6 (t1:=t1) h]
   | tup ts=>
    have e:ts[j]? = some t1:=e
    rw[Ab6,OT.put_tup,OT.put_tup,P8 e,P8 e,aG6 (t1:=t1) h]
theorem aI7 {k:Nat}:∀{π:List Nat} {t0 t:OT},t0.at π=some t->t0.at (π++[k])=t.kids[k]?
 | [],t0,t,h=>by
  cases h
  show(t0.kids[k]?).bind (OT.at [])=_
  cases t0.kids[k]? <;> rfl
 | j::π,t0,t,h=>by
  unfold OT.at at h;rw[Ab6];show(t0.kids[j]?).bind (OT.at (π++[k]))=_;cases e:t0.kids[j]? with
  | none=>rw[e]at h;cases h
  | some w=>
   rw[e]at h;exact aI7 (π := π) (t0:=w) h
theorem Foc.down {v0 v:V}{t0 t t1:OT}{L0:List Addr}{π:List Nat}{k:Nat}(f:Foc K Z H v0 t0 L0 π v t)(ha:t0.at π=some t)(h:t.kids[k]? = some t1) :
  ∃a xs u,v=.ref a/\(SqL K H a xs\/SqT K H a xs)/\xs[k]? = some u/\Foc K Z H v0 t0 L0 (π++[k]) u t1:=by
 obtain⟨L,A,C,h1,P,h3⟩:=f;rcases cX7 h1 h with⟨a,xs,B,M,rfl,rfl,s,D,e,rfl⟩ | ⟨a,xs,B,M,rfl,rfl,s,D,e,rfl⟩
 .obtain⟨u,Y,L2,X,U,J,N,R⟩:=bT5 D e;refine⟨a,xs,u,rfl,.inr s,U,L2,A++Y,X++C,J,by rw[P,N];simp,λZ' H' F L' m z w Q=>?_⟩
  have:=h3 Z' H' _ _ m z (λb hb=>w b (by rcases hb with hb | hb <;> simp[hb])) (Dp.tup (s.imp (z _ _) id) (R Z' H' F L' m z (λb hb=>w b (by rcases hb with hb | hb <;> simp[hb])) Q))
  rw[<- aG6 (t1:=t1) ha,OT.put_tup,P8 e,OT.put_nil];simpa using this
 .obtain⟨u,Y,L2,X,U,J,N,R⟩:=bT5 D e;refine⟨a,xs,u,rfl,.inl (SqL.of s),U,L2,A++a::Y,X++C,J,by rw[P,N];simp,λZ' H' F L' m z w Q=>?_⟩
  have:=h3 Z' H' _ _ m z (λb hb=>w b (by rcases hb with hb | hb <;> simp[hb])) (Dp.lst (by rw[w a (by simp)];exact s) (R Z' H' F L' m z (λb hb=>w b (by rcases hb with hb | hb <;> simp[hb])) Q))
  rw[<- aG6 (t1:=t1) ha,OT.put_lst,P8 e,OT.put_nil];simpa using this
end
section
variable {K:Frag}{ρ ρ' ρ1:List Sl}{m m':Bool}{t ta tb tc:TE}{d d':PyData}{ds es:List PyData}{u u0 u1:OT}{us:List OT}
def EFT (K:Frag)(t:TE)(ρ:List Sl)(u:OT):Prop:=
 ∀(S:Addr->Prop) (B:Hp) (σ:St) (H:Hp) (o:Nat->List Addr),Env K S B H σ ρ o->∀Q:VK,
  (∀v L H',Same H H'->(∀b∈L,H b=none)->L.Nodup->Dp K (hid (λb=>C9 ρ o S b\/b∈L) H') H' v u L->Q v H')->t σ H Q
def AFT (K:Frag)(t:TA)(ρ:List Sl)(us:List OT):Prop:=
 ∀(S:Addr->Prop) (B:Hp) (σ:St) (H:Hp) (o:Nat->List Addr),Env K S B H σ ρ o->∀Q:List V->Hp->Prop,
  (∀vs L H',Same H H'->(∀b∈L,H b=none)->L.Nodup->Dps K (hid (λb=>C9 ρ o S b\/b∈L) H') H' vs us L->Q vs H')->t σ H Q
theorem bE1:Same (hid S H) (hid (λb=>S b\/b∈([]:List Addr)) H):=D8 (L2.Same.rf _) λb z _=>z.elim id λz=>nomatch z
theorem bC6 (h:E K true t ρ d):EFT K t ρ (.leaf d):=λS B σ H o I Q q=>h S B σ H o I _ λv e s r=>
 q v [] e s (λ_ z=>nomatch z) .nil (.leaf (r.mono bE1))
theorem aQ4:∀{us:List OT} {vs:List V} {L:List Addr},Dps K Z H vs us L->vs.length=us.length
 | [],_,_,r=>by cases r;rfl
 | u::us,_,_,r=>by cases r with | cons a b=>simp[aQ4 b]
theorem G6:AFT K V7 ρ []:=λS B σ H o I Q q=>q [] [] H (L2.Same.rf _) (λ_ z=>nomatch z) .nil .nil
theorem Dps.mono (r:Dps K Z H vs us L)(z:Same Z Z')(h:Same H H'):Dps K Z' H' vs us L:=
 a9 z (λ_ _=>O7 h) us (λb w=>by obtain⟨xs,e⟩:=Z8 us r b w;rw[e];exact h _ _ e) r
theorem Env.hide {S:Addr->Prop}{B H H1:Hp}{σ:St}{o:Nat->List Addr}{L:List Addr}(I:Env K S B H σ ρ o)(s:Same H H1)(n:∀b∈L,H b=none)(l:∀b∈L,∃u:HM,H1 b=some u.ho) :
  Env K (λb=>S b\/b∈L) (hid (aP2 ρ o) H1) H1 σ ρ o:=by
 obtain⟨J,R⟩:=(I.grow s).rebase;have g:Same (hid (C9 ρ o S) H) (hid (C9 ρ o λb=>S b\/b∈L) H1):=D8 s λb z k=>by
  rcases z with (z | z) | z
  .exact .inl z
  .exact absurd (n b z) k
  .exact .inr z
 refine⟨I.len,H9,λb z=>?_,J.new,I.inj,λi ds h=>?_,λi d h=>?_,λi d h=>?_,λi t h=>?_⟩
 .rcases z with z | z
  .exact J.sl b z
  .obtain⟨xs,e⟩:=l b z;refine⟨xs,hid_some.mpr ⟨λ⟨i,x,h,M,U⟩=>?_,e⟩⟩
   obtain⟨Q,e'⟩:=I.lists b (.inr ⟨i,x,h,M,U⟩);rw[n b z]at e';cases e'
 .obtain⟨p,h1,w,xs,Y,X⟩:=I.own i ds h;exact⟨p,h1,w,xs,s _ _ Y,X.mono g⟩
 .obtain⟨v,h1,w⟩:=I.val i d h;exact⟨v,h1,w.mono g⟩
 .obtain⟨v,h1,w⟩:=I.bor i d h;exact⟨v,h1,w.mono s⟩
 .obtain⟨N,v,h1,w⟩:=I.tr i t h;exact⟨N,v,h1,w.mono g s⟩
theorem cX9 {o:Nat->List Addr}{S:Addr->Prop}{L:List Addr}{b:Addr}:C9 ρ o (λb=>S b\/b∈L) b↔C9 ρ o S b\/b∈L:=by
 constructor
 .rintro ((z | z) | z)
  .exact .inl (.inl z)
  .exact .inr z
  .exact .inl (.inr z)
 .rintro ((z | z) | z)
  .exact .inl (.inl z)
  .exact .inr z
  .exact .inl (.inr z)
theorem F4 (w:EFT K ta ρ u)(hr:AFT K tr ρ us):AFT K (G1 ta tr) ρ (u::us):=λS B σ H o I Q q=>
 w S B σ H o I _ λx N H1 X J D Y=>hr _ _ σ H1 o (I.hide X J (y4 u Y)) _ λxs R M U s F r2=>by
  have P:=y4 u Y
  refine q (x::xs) (N++R) M (L2.Same.tr X U) (λb hb=>?_) ?_ (.cons (Y.mono ?_ U) (r2.mono ?_ (L2.Same.rf _)))
  .rcases Aa0.mp hb with hb | hb
   .exact J b hb
   .exact O4 X (s b hb)
  .refine Aa4.mpr ⟨D,F,λa w b hb e=>?_⟩
   subst e;obtain⟨xs,e⟩:=P a w;rw[s a hb]at e;cases e
  .refine D8 U λb z k=>?_
   rcases z with z | z
   .exact .inl z
   .rcases Aa0.mp z with z | z
    .exact .inr z
    .exact absurd (s b z) k
  .refine D8 (L2.Same.rf _) λb z _=>?_
   rw[cX9];rcases z with z | z
   .exact .inl (.inl z)
   .rcases Aa0.mp z with z | z
    .exact .inl (.inr z)
    .exact .inr z
theorem aP9 {t:TA}(h:AFT K t ρ us)(e:us.length<=sizeLine:=by first | decide | (unfold PySem.sizeLine;simp)):EFT K (bP4 t) ρ (.tup us):=λS B σ H o I Q q=>h S B σ H o I _ λxs L H1 w n d r=>
 ⟨by rw[aQ4 r];exact e,λp hp=>by
  have g:=D1 (o:=.tup xs) hp
  exact q _ L _ (L2.Same.tr w g) n d (.tup (SqT.of B3) (r.mono (G0 g) g))⟩
theorem L9 {t:TA}(h:AFT K t ρ us)(s:us.length<=sizeLine:=by first | decide | (unfold PySem.sizeLine;simp)):EFT K (dJ3 t) ρ (.lst us):=λS B σ H o I Q q=>h S B σ H o I _ λxs L H1 w n d r=>
 ⟨by rw[aQ4 r];exact s,λp hp=>by
  have g:=D1 (o:=.lst xs) hp
  refine q _ (p::L) _ (L2.Same.tr w g) (λb hb=>?_) (Aa5.mpr ⟨λz=>?_,d⟩) (.lst B3 (r.mono ?_ g))
  .rcases Aa1.mp hb with rfl | hb
   .exact O4 w hp
   .exact n b hb
  .obtain⟨Y,e⟩:=Z8 us r p z;rw[hp]at e;cases e
  .refine D8 g λb z k=>?_
   rcases z with z | z
   .exact .inl z
   .rcases Aa1.mp z with rfl | z
    .exact absurd hp k
    .exact .inr z⟩
theorem aE8 (h:EFT K t ρ u)(w:R.nx (ρ.set i (.tr u)))(hi:i<ρ.length:=by first | decide | (simp;done) | (simp[LV.sl0];done)):W K (aL7 t (G7 i)) ρ R:=λS B D σ H o I s=>
 h S B σ H o I _ λv L e Y n d r=>s.nx _ _ e _ (I.put i hi (λ_=>False) (λ_ z=>z.elim) (λb y q _=>Y b y q) (λb z=>.inr (n b z)) (.inr ⟨u,rfl,d,r⟩) (.inl λ_ z=>z)) w
def AtP (K:Frag)(t:TE)(ρ:List Sl)(i:Nat)(π:List Nat):Prop:=
 ∀(S:Addr->Prop) (B:Hp) (σ:St) (H:Hp) (o:Nat->List Addr),Env K S B H σ ρ o->∀(u0 u:OT),ρ[i]? = some (.tr u0)->u0.at π=some u->∀Q:VK,
  (∀v0 v H',Same H H'->σ[i]? = some (some v0)->Foc K (hid (C9 ρ o S) H') H' v0 u0 (o i) π v u->Q v H')->t σ H Q
theorem aF1:AtP K (D7 i) ρ i []:=λS B σ H o I u0 u h e Q q=>by
 cases e
 obtain⟨_,v,a,b⟩:=I.tr i u0 h;exact⟨v,a,q v v H (L2.Same.rf _) a (Foc.root b)⟩
theorem Foc.grow {Z Z' H H':Hp}{v0 v:V}{L0:List Addr}{π:List Nat}(f:Foc K Z H v0 u0 L0 π v u)(l:∀b∈L0,∃u:HM,H b=some u.ho)(z:Same Z Z')(h:Same H H'):Foc K Z' H' v0 u0 L0 π v u:=
 f.mono z (λ_ _=>O7 h) λb w=>by obtain⟨xs,e⟩:=l b w;rw[e];exact h _ _ e
theorem Env.trL {S:Addr->Prop}{B H:Hp}{σ:St}{o:Nat->List Addr}{i:Nat}(I:Env K S B H σ ρ o)(h:ρ[i]? = some (.tr u0)):∀b∈o i,∃u:HM,H b=some u.ho:=λb e=>I.lists b (.inr ⟨i,_,h,rfl,e⟩)
theorem aK2 {i:Nat}{π:List Nat}{k:Int}(n:Nat)(hp:AtP K ta ρ i π)(J:E K false tb ρ (.int k))(N:k=n)(M:∀u0,ρ[i]? = some (.tr u0)->∃u,u0.at π=some u):AtP K (tOp (rIx K) ta tb) ρ i (π++[n]):=λS B σ H o I u0 u1 h U Q q=>by
 obtain⟨u,z⟩:=M u0 h;rw[aI7 z]at U;refine hp S B σ H o I u0 u h z _ λv0 v H1 s a f=>?_
 refine J S B σ H1 o (I.grow s) _ λw X Y r=>?_
 cases r
 have f2:=f.grow ((I.grow s).trL h) (G0 Y) Y
 obtain⟨p,xs,x,rfl,hs,R,f3⟩:=f2.down z U;have e:=W2 n N R;rcases hs with hs | hs
 .exact .inl ⟨p,xs,k,x,rfl,rfl,hs,e,q v0 x X (L2.Same.tr s Y) a f3⟩
 .exact .inr (.inl ⟨p,xs,k,x,rfl,rfl,hs,e,q v0 x X (L2.Same.tr s Y) a f3⟩)
end
section
variable {K:Frag}{ρ ρ' ρ1:List Sl}{m m':Bool}{t ta tb tc:TE}{d d':PyData}{ds es:List PyData}{u u0 u1:OT}{us us':List OT}
theorem aT9 (I:Env K S B H σ ρ o)(hi:ρ[i]? = some (.tr u0))(hv:σ[i]? = some (some v0))
  (f:Foc K (hid (C9 ρ o S) H) H v0 u0 (o i) π (.ref p) (.lst us)) (s:Same H H2) (hN:∀b∈Lx,H b=none) (dx:Lx.Nodup) (rx:Dp K (hid (λb=>C9 ρ o S b\/b∈Lx) H2) H2 x u Lx)
  (nb:∀(j:Nat) (d:PyData),ρ[j]?≠some (Sl.bor d)) (Y:List V->List V) (us':List OT)
  (hc:∀(xs:List V) (M:List Addr) (Z' H':Hp),Dps K Z' H' xs us M->Dp K Z' H' x u Lx->∃M',Dps K Z' H' (Y xs) us' M'/\((M++Lx).Nodup->M'.Nodup)/\∀b∈M',b∈M++Lx) :
  ∃xs,H2 p=some (.lst xs)/\xs.length=us.length/\∃o',Env K S B (upd H2 p (.lst (Y xs))) σ (ρ.set i (.tr (u0.put π (.lst us')))) o':=by
 obtain⟨D,v0',hv',r0⟩:=I.tr i u0 hi;obtain⟨L,A,C,h1,Q,h3⟩:=f;cases h1 with
 | @lst _ xs _ M hp r=>
 have P:i<ρ.length:=(Ab0.mp hi).1
 have oi:∀b∈o i,cG8 ρ o i b:=λb hb=>⟨_,hi,rfl,hb⟩
 have os:∀b∈o i,C9 ρ o S b:=λb hb=>.inr ⟨i,_,hi,rfl,hb⟩
 have U:p∈o i:=by rw[Q];simp
 have sub:∀b,(b∈A\/b∈M\/b∈C)->b∈o i/\b≠p:=λb hb=>by
  rw[Q]at D ⊢;refine⟨by rcases hb with hb | hb | hb <;> simp[hb],λe=>?_⟩
  subst e;simp only[Aa4,Aa5,Ab6,Aa0,Aa1,Ad7]at D;grind
 have lst:=I.trL hi
 have up:∀b,b∈o i->b≠p->upd H2 p (.lst (Y xs)) b=H b:=λb hb hne=>by
  rw[B0 hne];obtain⟨w,e⟩:=lst b hb;rw[e];exact s _ _ e
 have tk:∀a w,Rd H2 a (.tup w)->Rd (upd H2 p (.lst (Y xs))) a (.tup w):=λa w q=>by
  have n:a≠p:=λe=>by
   subst e
   have:=s _ _ hp
   rcases q with q | ⟨o,q⟩ <;> rw[this]at q <;> cases q
  rcases q with q | ⟨o,q⟩
  .exact .inl (by rw[B0 n];exact q)
  .exact .inr ⟨o,by rw[B0 n];exact q⟩
 have z1:Same (hid (C9 ρ o S) H) (hid (λb=>C9 ρ o S b\/b∈Lx) (upd H2 p (.lst (Y xs)))):=λb y q=>by
  obtain⟨N,R⟩:=hid_some.mp q;refine hid_some.mpr ⟨λz=>z.elim N λz=>(by rw[hN b z]at R;cases R),?_⟩
  rw[B0 (λe=>N (os b (by rw[e];exact U)))]
  exact s _ _ R
 have z2:Same (hid (λb=>C9 ρ o S b\/b∈Lx) H2) (hid (λb=>C9 ρ o S b\/b∈Lx) (upd H2 p (.lst (Y xs)))):=λb y q=>by
  obtain⟨N,R⟩:=hid_some.mp q;refine hid_some.mpr ⟨N,?_⟩;rw[B0 (λe=>N (.inl (os b (by rw[e];exact U))))]
  exact R
 have pN:p∉Lx:=λz=>by rw[hN p z]at hp;cases hp
 obtain⟨M',c1,c2,c3⟩:=hc xs M _ _ (a9 z1 (λa w q=>tk a w (O7 s q)) us (λb hb=>up b (sub b (.inr (.inl hb))).1 (sub b (.inr (.inl hb))).2) r)
  (aA7 z2 tk u (λb hb=>by rw[B0 (λe=>pN (by rw[<- e];exact hb))]) rx)
 have fin:=h3 _ _ (.lst us') (p::M') z1 (λa w q=>tk a w (O7 s q)) (λb hb=>up b (sub b (by rcases hb with hb | hb <;> simp[hb])).1 (sub b (by rcases hb with hb | hb <;> simp[hb])).2) (.lst B3 c1)
 have J:∀b∈Lx,b∉o i:=λb hb F=>by
  obtain⟨w,e⟩:=lst b F;rw[hN b hb]at e;cases e
 have mem:∀b∈A++p::M'++C,b∈o i\/b∈Lx:=λb hb=>by
  rw[Q]
  have:=c3 b
  simp only[Aa0,Aa1]at hb this ⊢;grind
 have X:(A++p::M'++C).Nodup:=by
  rw[Q]at D J;simp only[Aa4,Aa5,Ab6,Aa0,Aa1,Ad7]at D J c2 c3 ⊢;grind
 refine⟨xs,s _ _ hp,aQ4 r,bG6 o i (A++p::M'++C),?_⟩
 have:=I.put (H':=upd H2 p (.lst (Y xs))) (v:=v0) (x:=.tr (u0.put π (.lst us'))) (L:=A++p::M'++C) i P (λb=>b=p) (λb z=>by rw[z];exact oi p U) (λb y q z=>by rw[B0 z];exact s _ _ q)
  (λb hb=>(mem b hb).imp (oi b) (hN b))
  (.inr ⟨_,rfl,X,fin.mono (D8 (L2.Same.rf _) λb z _=>z.elim .inl λz=>(mem b z).elim (λz=>.inl (os b z)) .inr) (L2.Same.rf _)⟩) (.inr nb)
 rw[aV4 hv]at this;exact this
theorem aT8:∀{us:List OT} {xs:List V} {M:List Addr},Dps K Z H xs us M->Dp K Z H x u Lx->Dps K Z H (xs++[x]) (us++[u]) (M++Lx)
 | [],_,_,r,h=>by cases r;simpa using Dps.cons h .nil
 | a::us,_,_,r,h=>by
  cases r with
  | @cons v _ vs _ La Lb r1 r2=>
   have:=Dps.cons r1 (aT8 r2 h)
   simpa using this
theorem e6 {i:Nat}{π:List Nat}{R:AE}(hp:AtP K ta ρ i π)(hi:ρ[i]? = some (.tr u0))(Q:u0.at π=some (.lst us))(he:EFT K tb ρ u)(U:us.length<sizeLine)(N:R.nx (ρ.set i (.tr (u0.put π (.lst (us++[u]))))))(nb:M9 ρ=true:=by rfl) :
  W K (bC8 (tBM K "list" aH6 ta (G1 tb V7))) ρ R:=λS B D σ H o I s=>by
 refine hp S B σ H o I u0 _ hi Q _ λv0 v H1 e a f=>?_
 have ⟨L,A,C,f1,f2,f3⟩:=f
 cases f1 with
 | @lst p xs _ M hpp r=>
 refine⟨.inl ⟨rfl,_,SqL.of hpp⟩,?_⟩;refine he S B σ H1 o (I.grow e) _ λx w H2 s2 n d rx=>?_
 obtain⟨ys,z,Y,F,J⟩:=aT9 (I.grow e) hi a f s2 n d rx (J0 nb) (λxs=>xs++[x]) (us++[u]) λxs M Z' H' P r2=>⟨M++w,aT8 P r2,λh=>h,λb X=>X⟩
 exact⟨p,ys,x,rfl,rfl,z,by rw[Y];exact U,s.nx _ σ _ F J N⟩
theorem bX1:∀{us:List OT} {xs:List V} {M:List Addr} {n:Nat},Dps K Z H xs us M->Dp K Z H x u []->∃M',Dps K Z H (xs.set n x) (us.set n u) M'/\(M.Nodup->M'.Nodup)/\∀b∈M',b∈M
 | [],_,_,n,r,h=>by cases r;exact⟨[],.nil,id,λ_ z=>z⟩
 | a::us,_,_,0,r,h=>by
  cases r with
  | @cons v _ vs _ La Lb r1 r2=>exact⟨Lb,by simpa using Dps.cons h r2,λz=>(Aa4.mp z).2.1,λb hb=>by simp[hb]⟩
 | a::us,_,_,n+1,r,h=>by
  cases r with
  | @cons v _ vs _ La Lb r1 r2=>
   obtain⟨M',h1,h2,h3⟩:=bX1 (n:=n) r2 h;refine⟨La++M',Dps.cons r1 h1,λz=>?_,λb hb=>?_⟩
   .obtain⟨w,s,Y⟩:=Aa4.mp z;exact Aa4.mpr ⟨w,h2 s,λa e b hb=>Y a e b (h3 b hb)⟩
   .rcases Aa0.mp hb with hb | hb
    .simp[hb]
    .simp[h3 b hb]
theorem dJ6 (n:Nat)(he:E K true t ρ d)(hp:AtP K ta ρ i π)(hk:E K false tb ρ (.int k))(e:k=n)(hn':n<us.length)(hi:ρ[i]? = some (.tr u0))(hu:u0.at π=some (.lst us))(hn:R.nx (ρ.set i (.tr (u0.put π (.lst (us.set n (.leaf d)))))))(nb:M9 ρ=true:=by rfl) :
  W K (aL7 t (dL0 ta tb cM3)) ρ R:=λS B D σ H o I s=>by
 refine he S B σ H o I _ λx Q X rx=>?_
 refine hp S B σ Q o (I.grow X) u0 _ hi hu _ λv0 v H1 U a f=>?_
 have ⟨L,A,C,f1,f2,f3⟩:=f
 cases f1 with
 | @lst p xs _ M hpp r=>
 refine hk S B σ H1 o ((I.grow X).grow U) _ λw H2 N Y=>?_
 cases Y
 obtain⟨ys,P,e2,o',J⟩:=aT9 (x:=x) (u:=.leaf d) (Lx:=[]) ((I.grow X).grow U) hi a f N (λb z=>nomatch z) .nil (.leaf (rx.mono (L2.Same.tr (G0 (L2.Same.tr U N)) bE1))) (J0 nb) (λxs=>xs.set n x) (us.set n (.leaf d)) λxs M Z' H' r1 r2=>by
  obtain⟨F,g1,g2,g3⟩:=bX1 (n:=n) r1 r2;exact⟨F,g1,λh=>g2 (by simpa using h),λb hb=>by simpa using g3 b hb⟩
 exact⟨p,ys,k,n,rfl,rfl,P,by unfold ixN;rw[Ae (by lia),Ae (by lia)];simp[e],s.nx _ σ _ o' J hn⟩
def EX (K:Frag)(t:TE)(ρ:List Sl)(j:Nat)(d:PyData)(ρ':List Sl):Prop:=
 ∀(S:Addr->Prop) (B:Hp) (σ:St) (H:Hp) (o:Nat->List Addr),Env K S B H σ ρ o->∀Q:VK,(∀v H' o',Env K S B H' σ ρ' o'->(∀k,k≠j->o' k=o k)->(∀b y,H b=some y->b∉o j->H' b=some y)->(∀b∈o j,∃u:HM,H b=some u.ho) ->
  Same (hid (C9 ρ o S) H) (hid (C9 ρ' o' S) H')->Rep K (hid (C9 ρ' o' S) H') v d->Q v H')->t σ H Q
theorem bE5 (w:ρ[j]? = some (.own (ds++[d])))(nb:M9 ρ=true:=by rfl):EX K (dK3 K "list" dH5 (D7 j)) ρ j d (ρ.set j (.own ds)):=λS B σ H o I Q q=>by
 obtain⟨p,hp,a,xs,b,c⟩:=I.own j _ w;have N:=c.length;obtain⟨y,h1,U⟩:=c.get' (i:=ds.length) (d:=d) (by simp)
 refine⟨_,a,.inl ⟨rfl,xs,SqL.of b⟩,_,xs,y,rfl,rfl,b,by rw[N];simpa using h1,?_⟩
 have Y:=c.dropLast
 rw[List.dropLast_concat]at Y;have X:=I.upd w hp Y (J0 nb);have g:=bG3 (S:=S) (H:=H) (xs:=xs.dropLast) (es:=ds) w hp;exact q y _ _ X (λk M=>Q4 (Ne.symm M)) (λs x e n=>by rw[B0 (λz=>n (by rw[hp,z];simp))];exact e) (λs J=>I.lists s (.inr ⟨j,_,w,rfl,J⟩)) g (U.mono g)
theorem cR2 (n:Nat)(X:ρ[j]? = some (.own ds))(U:E K false tb ρ (.int k))(J:k=n)(hn:ds[n]? = some d)(R:n<2^63)(nb:M9 ρ=true:=by rfl):EX K (tBM K "list" cS4 (D7 j) (G1 tb V7)) ρ j d (ρ.set j (.own (ds.eraseIdx n))):=λS B σ D o Y Q q=>by
 obtain⟨p,hp,a,xs,N,P⟩:=Y.own j _ X;refine⟨_,a,.inl ⟨rfl,xs,SqL.of N⟩,?_⟩;refine U S B σ D o Y _ λw H s r=>?_
 cases r
 have I:=Y.grow s
 have b:=s _ _ N
 have c:=P.mono (G0 s)
 obtain⟨y,h1,h2⟩:=c.get' hn;have hl:=(Ab0.mp h1).1;refine⟨_,xs,k,n,y,rfl,rfl,b,by lia,by lia,(bD8 (by unfold ixN;rw[Ae (by lia),Ae (by lia)];simp[J])).1,h1,?_⟩
 have F:=I.upd X hp (c.eraseIdx n) (J0 nb)
 have g:=bG3 (S:=S) (H:=H) (xs:=xs.eraseIdx n) (es:=ds.eraseIdx n) X hp
 exact q y _ _ F (λk U=>Q4 (Ne.symm U)) (λM x e m=>by rw[B0 (λz=>m (by rw[hp,z];simp))];exact s _ _ e) (λM R=>Y.lists M (.inr ⟨j,_,X,rfl,R⟩)) (L2.Same.tr (G0 s) g) (h2.mono g)
theorem aN7 (Q:EX K t ρ j d ρ')(hi:ρ[i]? = some (.own ds))(e:ρ'[i]? = some (.own ds))(M:ds.length<sizeLine)(N:R.nx (ρ'.set i (.own (ds++[d]))))(nb:M9 ρ'=true:=by rfl) :
  W K (bC8 (tBM K "list" aH6 (D7 i) (G1 t V7))) ρ R:=λS B D σ H o I s=>by
 obtain⟨p,hp,a,xs,b,c⟩:=I.own i ds hi;refine⟨_,a,.inl ⟨rfl,xs,SqL.of b⟩,?_⟩;refine Q S B σ H o I _ λv F P Y _ _ _ _ r=>?_
 obtain⟨p',w,X,z,J,U⟩:=Y.own i ds e;rw[a]at X;cases X;refine⟨_,z,v,rfl,rfl,J,by rw[U.length];exact M,?_⟩
 exact s.nx _ σ _ _ (Y.upd e w (U.append (.cons r .nil)) (J0 nb)) N
theorem bT4 {i j:Nat}{π:List Nat}{R:AE}(hp:AtP K ta ρ i π)(hx:EX K t ρ j d ρ')(w:i≠j)(hj:∃x,ρ[j]? = some x/\x.os=true)(hi:ρ[i]? = some (.tr u0))(X:ρ'[i]? = some (.tr u0))(hu:u0.at π=some (.lst us))(hl:us.length<sizeLine)(hn:R.nx (ρ'.set i (.tr (u0.put π (.lst (us++[.leaf d]))))))(nb:M9 ρ'=true:=by rfl) :
  W K (bC8 (tBM K "list" aH6 ta (G1 t V7))) ρ R:=λS B D σ H o I s=>by
 refine hp S B σ H o I u0 _ hi hu _ λv0 v H1 s1 a f=>?_
 have ⟨L,A,C,f1,f2,f3⟩:=f
 cases f1 with
 | @lst p xs _ M hpp r=>
 refine⟨.inl ⟨rfl,_,SqL.of hpp⟩,?_⟩;refine hx S B σ H1 o (I.grow s1) _ λx H2 o' I' ho U N hz rx=>?_
 obtain⟨y,Q,F⟩:=hj;have P:=f.mono hz (H':=H2) (λa ys q=>by
  have n:a∉o j:=λz=>by
   obtain⟨zs,e⟩:=N a z;rcases q with q | ⟨o,q⟩ <;> rw[e]at q <;> replace q:=Ab4 q
   .exact HM.nt q
   .exact HM.nf q
  rcases q with q | ⟨o,q⟩
  .exact .inl (U _ _ q n)
  .exact .inr ⟨o,U _ _ q n⟩) λb Y=>by
   obtain⟨zs,e⟩:=(I.grow s1).trL hi b Y;rw[e];exact U _ _ e λz=>w (I.inj i j _ y hi Q rfl F b Y z)
 rw[<- ho i w]at P;obtain⟨ys,e1,e2,o2,J⟩:=aT9 (x:=x) (u:=.leaf d) (Lx:=[]) I' X a P (L2.Same.rf _) (λb z=>nomatch z) .nil (.leaf (rx.mono bE1)) (J0 nb) (λxs=>xs++[x]) (us++[.leaf d]) λxs M Z' H' r1 r2=>⟨M++[],aT8 r1 r2,λh=>h,λb Y=>Y⟩
 exact⟨p,ys,x,rfl,rfl,e1,by rw[e2];exact hl,s.nx _ σ _ o2 J hn⟩
theorem Env.frz {S:Addr->Prop}{B H:Hp}{σ:St}{o:Nat->List Addr}{i:Nat}{x:Sl}(I:Env K S B H σ ρ o)(hi:ρ[i]? = some x)(Q:x=.own ds/\d=.list ds\/∃u,x=.tr u/\d=u.data):Env K S B H σ (ρ.set i (.val d)) o:=by
 have s:x.os=true:=by rcases Q with⟨rfl,_⟩ | ⟨u,rfl,_⟩ <;> rfl
 have M:i<ρ.length:=(Ab0.mp hi).1
 have at_:∀{j:Nat} {y:Sl},y≠.val d->(ρ.set i (.val d))[j]? = some y->i≠j/\ρ[j]? = some y:=λ{j y} w h=>by
  rw[List.getElem?_set]at h;by_cases c:i=j
  .rw[Ae c,Ae (by lia)]at h
   exact absurd (Ab4 h).symm w
  .rw[Ac c]at h;exact⟨c,h⟩
 have Y:∀{y:Sl},y.os=true->y≠.val d:=λ{y} h e=>by rw[e]at h;cases h
 have g:Same (hid (C9 ρ o S) H) (hid (C9 (ρ.set i (.val d)) o S) H):=D8 (L2.Same.rf _) λb z _=>aQ3 rfl z
 have X:∀b∈o i,hid (C9 (ρ.set i (.val d)) o S) H b=H b:=λb U=>by
  obtain⟨xs,e⟩:=I.lists b (.inr ⟨i,x,hi,s,U⟩);rw[e];refine hid_some.mpr ⟨λz=>?_,e⟩
  rcases z with z | ⟨j,y,h,w,J⟩
  .obtain⟨P,e'⟩:=I.sl b z;rw[I.new i x hi s b U]at e';cases e'
  .obtain⟨c,h⟩:=at_ (Y w) h;exact c (I.inj i j x y hi h s w b U J)
 have lists:∀b,C9 (ρ.set i (.val d)) o S b->∃u:HM,H b=some u.ho:=λb z=>I.lists b (aQ3 rfl z)
 refine⟨by simp[I.len],I.base,I.sl,λj y h w=>I.new j y (at_ (Y w) h).2 w,λj k y z h F w D=>I.inj j k y z (at_ (Y w) h).2 (at_ (Y D) F).2 w D,λj es h=>?_,λj d' h=>?_,λj d' h=>?_,λj t h=>?_⟩
 .obtain⟨c,h⟩:=at_ (Y rfl) h;obtain⟨p,N,a,xs,b,R⟩:=I.own j es h;exact⟨p,N,a,xs,b,R.mono g⟩
 .by_cases c:i=j
  .subst c;rw[Bh M]at h;cases h;rcases Q with⟨rfl,rfl⟩ | ⟨u,rfl,rfl⟩
   .obtain⟨p,N,a,xs,b,R⟩:=I.own i ds hi;exact⟨_,a,.lst (SqL.of (by rw[X p (by rw[N];simp)];exact b)) (R.mono g)⟩
   .obtain⟨_,v,a,b⟩:=I.tr i u hi;exact⟨v,a,bG0 H9 (λ_ _ q=>W7 lists q) g u X b⟩
  .rw[Ad0 c]at h;obtain⟨v,a,b⟩:=I.val j d' h;exact⟨v,a,b.mono g⟩
 .obtain⟨c,h⟩:=at_ (by simp) h
  exact I.bor j d' h
 .obtain⟨c,h⟩:=at_ (Y rfl) h;obtain⟨n,v,a,b⟩:=I.tr j t h;exact⟨n,v,a,b.mono g (L2.Same.rf _)⟩
theorem bA0 {i:Nat}{t:TS}{R:AE}(hi:ρ[i]? = some (.own ds))(h:W K t (ρ.set i (.val (.list ds))) R):W K t ρ R:=λS B D σ H o I s=>h S B D σ H o (I.frz hi (.inl ⟨rfl,rfl⟩)) s
theorem aM4 {i:Nat}{t:TS}{R:AE}(hi:ρ[i]? = some (.tr u))(h:W K t (ρ.set i (.val u.data)) R):W K t ρ R:=λS B D σ H o I s=>h S B D σ H o (I.frz (ds:=[]) hi (.inr ⟨u,rfl,rfl⟩)) s
theorem aB4 {α:Type}{f:α->OT}{g:α->PyData}(h:∀a,(f a).data=g a):∀l:List α,OT.datas (l.map f)=l.map g
 | []=>rfl
 | a::l=>by simp[OT.datas,h a,aB4 h l]
end
end LV
namespace LV
open PySem PySem.Spec PyProof.Rows L2
def cP6 (K:Frag):R2:=λx y H Q=>∃l b xs zs,x=.ref l/\y=.ref b/\SqL K H l xs/\SqL K H b zs/\xs.length+zs.length<=sizeLine/\∀p,H p=none->Q (.ref p) (upd H p (.lst (xs++zs)))
theorem M5 (K:Frag)(h:X.K=K:=by rfl):OpR X (binaryOp .Add) (cP6 K):=by
 subst h;intro aA s σ H x y v u Q I rx ry h;obtain⟨l,b,xs,zs,rfl,rfl,hH,hB,hz,q⟩:=h;cases rx;cases ry;obtain⟨its,r,⟨⟨cls,dd,data,sl⟩,n,ho,R,hdd,D⟩,_⟩:=I.list hH;obtain⟨w,P,⟨⟨N,J,U,M⟩,n2,Y,z,B,m⟩,_⟩:=I.list hB;simp only at R D z m;subst R D z m;have e:its.toArray++w.toArray=(its++w).toArray:=by simp
 have hl:=r.length
 have hl2:=P.length
 refine concat_meets ⟨_,ho,rfl⟩ ⟨_,Y,rfl⟩ noFill_list_add seq_list_add PySem.F.slot_list_add PySem.F.entry_list_add (PySem.F.args_list_add_2 _ _) (list_addW l b its.toArray w.toArray n n2 dd J sl M (by simp;lia)) ⟨ho,Y,?_⟩
 rw[e];exact⟨.ref _,_,I.lnew (t':=s.toks) (r.append P) (by rw[Ab7];lia),rfl,q _ I.fresh⟩
end LV
namespace LV
open PySem L2
section
variable {K:Frag}{ρ ρ' ρ1:List Sl}{m m':Bool}{t ta tb tc:TE}{d d':PyData}{ds es:List PyData}
theorem u8:∀{l l':List PyData},G5 (l++l')=(G5 l&&G5 l')
 | [],l'=>by simp[G5]
 | a::l,l'=>by simp[G5,u8 (l:=l),Bool.and_assoc]
theorem bM7:∀{l:List PyData},G5 l=true->∀d∈l,imm d=true
 | [],_,d,hd=>by simp at hd
 | a::l,h,d,hd=>by
  simp[G5]at h
  rcases Aa1.mp hd with rfl | z
  .exact h.1
  .exact bM7 h.2 d z
theorem bE6 (Y:E K false ta ρ (.list ds))(X:E K false tb ρ (.list es))(hi:G5 ds=true)(z:G5 es=true)(U:ds.length+es.length<=sizeLine:=by first | decide | (unfold PySem.sizeLine;simp;done)):EF K (tOp (cP6 K) ta tb) ρ (ds++es):=λS B σ H o I Q q=>
 Y S B σ H o I _ λx H1 w J=>X S B σ H1 o (I.grow w) _ λy N e M=>by
  cases J with
  | @lst a xs _ sa ra=>
  cases M with
  | @lst b ys _ sb rb=>
  have s:=ra.mono e
  refine⟨a,b,xs,ys,rfl,rfl,O5 e sa,sb,by rw[ra.length,rb.length];exact U,λp hp=>q p _ _ (L2.Same.tr w (L2.Same.tr e (D1 hp))) (O4 (L2.Same.tr w e) hp) B3 (aA0 ((I.grow w).grow e).lists hp (s.append rb) ?_)⟩
  rw[u8,hi,z];rfl
def O (K:Frag)(t:TO)(ρ:List Sl)(i:Option Int):Prop:=
 ∀(S:Addr->Prop) (B:Hp) (σ:St) (H:Hp) (o:Nat->List Addr),Env K S B H σ ρ o->∀Q,(∀H',Same H H'->Q i H')->t σ H Q
def aN6 (xs:List PyData)(lo hi:Option Int):List PyData:=List.take (HT.sIx xs.length xs.length hi-HT.sIx xs.length 0 lo) (List.drop (HT.sIx xs.length 0 lo) xs)
theorem Reps.cut (r:Reps K H xs ds)(lo hi:Option Int):Reps K H (bH8 xs lo hi) (aN6 ds lo hi):=by
 unfold bH8 aN6;rw[r.length];exact(r.drop _).take _
theorem T3 (lo hi:Option Int)(h:G5 ds=true):G5 (aN6 ds lo hi)=true:=by
 refine bG8 λd e=>?_
 have:d∈ds:=De (Bn e)
 exact bM7 h d this
theorem bI5:O K cB7 ρ none:=λS B σ H o I Q q=>q H (L2.Same.rf _)
theorem u4 (h:E K false t ρ (.int i)):O K (bZ3 t) ρ (some i):=λS B σ H o I Q q=>h S B σ H o I _ λv e s r=>by
 cases r
 exact⟨i,rfl,q e s⟩
theorem aW9 (h:n<=ds.length):aN6 ds (some (n:Int)) none=ds.drop n:=by
 unfold aN6 HT.sIx;simp only[];rw[Ac (by lia),Ac8,Nat.min_eq_left h]
 exact Dq (by simp)
theorem bJ2 (h:n<=ds.length):aN6 ds none (some (n:Int))=ds.take n:=by
 unfold aN6 HT.sIx;simp only[];rw[Ac (by lia),Ac8,Nat.min_eq_left h]
 simp
theorem bZ4 (X:E K false ta ρ (.list ds))(J:O K tl ρ lo)(U:O K th ρ hi)(z:G5 ds=true):EF K (tSl (dA7 K) ta tl th) ρ (aN6 ds lo hi):=λS B σ H o I Q q=>
 X S B σ H o I _ λx H1 w M=>J S B σ H1 o (I.grow w) _ λY s=>U S B σ Y o ((I.grow w).grow s) _ λR N=>by
  cases M with
  | @lst a xs _ sa ra=>
  have e:=L2.Same.tr s N
  exact⟨a,xs,rfl,O5 e sa,λp hp=>q p _ _ (L2.Same.tr w (L2.Same.tr e (D1 hp))) (O4 (L2.Same.tr w e) hp) B3 (aA0 (I.grow (L2.Same.tr w e)).lists hp ((ra.mono e).cut lo hi) (T3 lo hi z))⟩
end
end LV
namespace L2
open PySem
def dM2:Expr->Bool
 | .Starred ..=>false
 | _=>true
theorem aS0 (h:dM2 e=true):starEach (e::es) env=(false,eval e env)::starEach es env:=by
 cases e <;> first | rfl | cases h
theorem A0 (w:PE X e te)(hr:PA X es t)(h:dM2 e=true:=by rfl):PA X (e::es) (G1 te t):=cW7 w hr (aS0 h)
theorem aT5 (K:Frag)(U:X.calm=true)(w:Gl X "list")(s:X.mg "list" = none)(z:Gl X "reversed")(m:X.mg "reversed" = none)(he:PE X e te)(Y:X.K=K:=by rfl)(h:dM2 e=true:=by rfl) :
  PE X (.Call (.Name "list" p1) [.Call (.Name "reversed" p2) [e] [] pos2] [] pos1) (LV.cB3 K te):=
 LV.bO7 K U w s z m he Y (aS0 h) (aS0 rfl)
end L2
namespace TT
def lin:List Nat->Nat->Nat->Prop
 | c::d::l,a,b=>(a=c/\b=d)\/lin (d::l) a b
 | _,_,_=>False
theorem cA7 (a b:Nat):lin [] a b↔False:=Iff.rfl
theorem aA8 (c a b:Nat):lin [c] a b↔False:=Iff.rfl
theorem B9 (c d:Nat)(l:List Nat)(a b:Nat):lin (c::d::l) a b↔(a=c/\b=d)\/lin (d::l) a b:=Iff.rfl
theorem D4 (c:Nat)(w:List Nat)(a b:Nat):∀u:List Nat,lin (u++c::w) a b↔lin (u++[c]) a b\/lin (c::w) a b
 | []=>by simp[aA8]
 | [d]=>by simp[B9,aA8]
 | d::e::u=>by
  have z:=D4 c w a b (e::u)
  simp only[Ab6,B9]at z ⊢;rw[z];grind
theorem Q7:∀{u:List Nat},lin (u++[c]) a b->a∈u
 | [],h=>h.elim
 | [d],h=>by
  rcases (B9 ..).mp h with⟨rfl,rfl⟩ | h
  .simp
  .exact h.elim
 | d::e::u,h=>by
  rcases (B9 ..).mp h with⟨rfl,rfl⟩ | h
  .simp
  .exact Ad4 _ (Q7 (u:=e::u) h)
theorem V1 (h:lin (c::u) a b):b∈u:=by
 induction u generalizing c with
 | nil=>exact h.elim
 | cons d u e=>
  rcases (B9 ..).mp h with⟨rfl,rfl⟩ | h
  .simp
  .exact Ad4 _ (e h)
theorem aB6 (h:lin l a b):a∈l/\b∈l:=by
 induction l with
 | nil=>exact h.elim
 | cons c l e=>
  refine⟨?_,Ad4 _ (V1 h)⟩;cases l with
  | nil=>exact h.elim
  | cons d l=>
   rcases (B9 ..).mp h with⟨rfl,rfl⟩ | h
   .simp
   .exact Ad4 _ (e h).1
def adj (l:List Nat)(a b:Nat):Prop:=lin (l++l.take 1) a b
structure Edit (row row':Nat->List Nat)(v x y:Nat)(L C R:List Nat):Prop where
 nd:∀q,(row q).Nodup
 self:∀q,q∉row q
 tri:∀q a b,adj (row q) a b->adj (row a) b q
 v2:v≠2
 fresh:∀q,v∉row q
 two:row 2=L++x::(C++y::R)
 newv:row' v=x::(C++[y,2])
 oldv:row v=[]
 new2:row' 2=L++x::v::y::R
 rx:∃u z w,row x=u++z::2::w/\row' x=u++z::v::2::w
 ry:∃u w,row y=u++2::w/\row' y=u++2::v::w
 rc:∀c∈C,∃u z w,row c=u++z::2::w/\row' c=u++z::v::w
 rest:∀q,q≠2->q≠v->q≠x->q≠y->q∉C->row' q=row q
section
variable {row row':Nat->List Nat}{v x y:Nat}{L C R:List Nat}
def EE (x y:Nat)(C:List Nat)(a b:Nat):Prop:=lin (x::(C++[y])) a b
def W (x y:Nat)(C:List Nat)(q a b:Nat):Prop:=(q=2/\EE x y C a b)\/(b=2/\EE x y C q a)\/(a=2/\EE x y C b q)
def W' (v x y:Nat)(C:List Nat)(q a b:Nat):Prop:=(q=v/\EE x y C a b)\/(b=v/\EE x y C q a)\/(a=v/\EE x y C b q) \/
 (q=2/\a=x/\b=v)\/(q=x/\a=v/\b=2)\/(q=v/\a=2/\b=x)\/(q=2/\a=v/\b=y)\/(q=v/\a=y/\b=2)\/(q=y/\a=2/\b=v)
theorem y9 (h:EE x y C a b):(a=x\/a∈C)/\(b∈C\/b=y):=by
 have h1:=Q7 (u:=x::C) h
 have e:=V1 h
 exact⟨by simpa using h1,by simpa using e⟩
theorem Edit.facts (E:Edit row row' v x y L C R):(x≠y/\x≠2/\y≠2/\x≠v/\y≠v)/\(∀c∈C,c≠x/\c≠y/\c≠2/\c≠v)/\(L++x::(C++y::R)).Nodup:=by
 have h:=E.nd 2
 have e:=E.self 2
 have w:=E.fresh 2
 rw[E.two]at h e w;refine⟨?_,?_,h⟩
 .grind
 .intro c z;grind
theorem dV3 (E:Edit row row' v x y L C R)(a b:Nat):adj (row' 2) a b↔(adj (row 2) a b/\¬W x y C 2 a b)\/W' v x y C 2 a b:=by
 obtain⟨⟨f1,f2,f3,f4,f5⟩,fc,nd⟩:=E.facts;unfold adj;rw[E.two,E.new2];have F:(L++x::(C++y::R)).take 1=(L++[x]).take 1:=by cases L <;> simp
 have B:(L++x::v::y::R).take 1=(L++[x]).take 1:=by cases L <;> simp
 rw[F,B];generalize Y:(L++[x]).take 1=t;have Q:∀c∈t,c∈L++[x]:=λc m=>by rw[<- Y]at m;exact Bn m
 have U:L++x::(C++y::R)++t=L++x::(C++y::(R++t)):=by simp
 have J:L++x::v::y::R++t=L++x::v::y::(R++t):=by simp
 have M:x::(C++y::(R++t))=(x::C)++y::(R++t):=by simp
 rw[U,J,D4 x (v::y::(R++t)) a b L,D4 x (C++y::(R++t)) a b L,M,D4 y _ a b (x::C),B9 x v,B9 v y];have N:lin ((x::C)++[y]) a b↔EE x y C a b:=Iff.rfl;rw[N];have w := @y9 x y C;have g1:lin (L++[x]) a b->¬EE x y C a b:=λh q=>by
  have:=(aB6 h).2
  have:=(w q).2
  grind
 have g2:lin (y::(R++t)) a b->¬EE x y C a b:=λh q=>by
  have h2:=(w q).1
  have h3:a∈y::R:=by
   match t,Y with
   | [],_=>
    rcases Ac5 R with e | ⟨X,z,e⟩
    .subst e;exact h.elim
    .subst e
     have:=Q7 (u:=y::X) (by simpa using h)
     simp at this ⊢;try grind
   | [z],_=>exact Q7 (u:=y::R) h
   | z::z'::t',e=>
    have:=congrArg List.length e
    simp at this
  grind
 have P:W x y C 2 a b↔EE x y C a b:=by
  unfold W;constructor
  .rintro (⟨_,h⟩ | ⟨_,h⟩ | ⟨_,h⟩)
   .exact h
   .have:=(w h).1;grind
   .have:=(w h).2;grind
  .exact λh=>.inl ⟨rfl,h⟩
 have s:W' v x y C 2 a b↔(a=x/\b=v)\/(a=v/\b=y):=by
  unfold W';have D:=E.v2;constructor
  .rintro (⟨h,_⟩ | ⟨_,h⟩ | ⟨_,h⟩ | h | h | h | h | h | h)
   .exact absurd h.symm D
   .have:=(w h).1;grind
   .have:=(w h).2;grind
   all_goals grind
  .grind
 rw[P,s];grind
theorem tk1 (h:l≠[]):∃c,l.take 1=[c]/\c∈l:=by
 cases l with
 | nil=>exact absurd rfl h
 | cons c l=>exact⟨c,by simp,by simp⟩
theorem bF7 (E:Edit row row' v x y L C R)(a b:Nat):∃t,(∀c∈t,c∈L++[x])/\t.length=1/\(adj (row 2) a b↔lin (L++[x]) a b\/EE x y C a b\/lin (y::(R++t)) a b):=by
 refine⟨(L++[x]).take 1,λc z=>Bn z,by simp,?_⟩
 unfold adj;rw[E.two];have s:(L++x::(C++y::R)).take 1=(L++[x]).take 1:=by cases L <;> simp
 rw[s];generalize (L++[x]).take 1=t;have e:L++x::(C++y::R)++t=L++x::(C++y::(R++t)):=by simp
 have w:x::(C++y::(R++t))=(x::C)++y::(R++t):=by simp
 rw[e,D4 x (C++y::(R++t)) a b L,w,D4 y _ a b (x::C)];exact Iff.rfl
theorem j8 (E:Edit row row' v x y L C R)(h:EE x y C a b):adj (row 2) a b:=by
 obtain⟨t,_,_,e⟩:=bF7 E a b;exact e.mpr (.inr (.inl h))
theorem bZ2 (E:Edit row row' v x y L C R)(h:adj (row 2) a b)(s:a=x\/a∈C):EE x y C a b:=by
 obtain⟨_,_,Y⟩:=E.facts;obtain⟨t,m,w,e⟩:=bF7 E a b;rcases e.mp h with h | h | h
 .have:=Q7 h;grind
 .exact h
 .obtain⟨z,rfl⟩:∃z,t=[z]:=List.length_eq_one_iff.mp w
  have:=Q7 (u:=y::R) h
  grind
theorem bM4 (E:Edit row row' v x y L C R)(h:adj (row 2) a b)(w:b∈C\/b=y):EE x y C a b:=by
 obtain⟨_,_,m⟩:=E.facts;obtain⟨t,s,z,e⟩:=bF7 E a b;rcases e.mp h with h | h | h
 .have:=(aB6 h).2;grind
 .exact h
 .have:=V1 h
  grind
theorem dQ0 (E:Edit row row' v x y L C R):adj (row 2) a b↔adj (row a) b 2:=⟨E.tri _ _ _,λh=>E.tri _ _ _ (E.tri _ _ _ h)⟩
theorem dB6 (E:Edit row row' v x y L C R):adj (row 2) a b↔adj (row b) 2 a:=⟨λh=>E.tri _ _ _ (E.tri _ _ _ h),λh=>E.tri _ _ _ h⟩
theorem dV9 (E:Edit row row' v x y L C R)(a b:Nat):adj (row' v) a b↔(adj (row v) a b/\¬W x y C v a b)\/W' v x y C v a b:=by
 obtain⟨⟨f1,f2,f3,m,Y⟩,X,J⟩:=E.facts;have U:=E.v2;unfold adj;rw[E.newv,E.oldv];have e:x::(C++[y,2])++(x::(C++[y,2])).take 1=(x::C)++y::[2,x]:=by simp
 rw[e,D4 y [2,x] a b (x::C),B9,B9];have z:lin ((x::C)++[y]) a b↔EE x y C a b:=Iff.rfl;rw[z];have w := @y9 x y C;have h1:∀c,¬EE x y C v c:=λc h=>by have:=(w h).1;grind
 have s:∀c,¬EE x y C c v:=λc h=>by have:=(w h).2;grind
 unfold W'
 simp[cA7,aA8,h1,s]
 grind
theorem dW7 (E:Edit row row' v x y L C R)(a b:Nat):adj (row' x) a b↔(adj (row x) a b/\¬W x y C x a b)\/W' v x y C x a b:=by
 obtain⟨⟨f1,f2,f3,J,f5⟩,fc,nd⟩:=E.facts;have hv:=E.v2;obtain⟨u,z,w,o,n⟩:=E.rx;have m:=E.nd x;have s:∀c,EE x y C x c↔adj (row x) c 2:=λc=>⟨λh=>E.tri _ _ _ (j8 E h),λh=>bZ2 E ((dQ0 E).mpr h) (.inl rfl)⟩
 have N := @y9 x y C
 have Y:∀c,¬EE x y C c x:=λc h=>by have:=(N h).2;grind
 have w1:W x y C x a b↔(b=2/\adj (row x) a 2):=by unfold W;simp[f2,Y,s]
 have w2:W' v x y C x a b↔(b=v/\adj (row x) a 2)\/(a=v/\b=2):=by unfold W';simp[f2,J,f1,Y,s]
 rw[w1,w2];unfold adj;rw[o]at m;rw[o,n];have B:(u++z::2::w).take 1=(u++[z]).take 1:=by cases u <;> simp
 have P:(u++z::v::2::w).take 1=(u++[z]).take 1:=by cases u <;> simp
 rw[B,P];have Q:∀c∈(u++[z]).take 1,c∈u++[z]:=λc M=>Bn M
 generalize (u++[z]).take 1=t at Q;have X:u++z::2::w++t=u++z::2::(w++t):=by simp
 have U:u++z::v::2::w++t=u++z::v::2::(w++t):=by simp
 rw[X,U,D4 z (2::(w++t)) a b u,D4 z (v::2::(w++t)) a b u,D4 z (2::(w++t)) a 2 u,B9,B9,B9,B9];have D:¬lin (u++[z]) a 2:=λh=>by have:=(aB6 h).2;grind
 have F:¬lin (2::(w++t)) a 2:=λh=>by have:=V1 h;grind
 have n3:lin (u++[z]) a b->b≠2:=λh e=>D (e▸h)
 have n4:lin (2::(w++t)) a b->b≠2:=λh e=>F (e▸h)
 grind
theorem dV2 (E:Edit row row' v x y L C R)(a b:Nat):adj (row' y) a b↔(adj (row y) a b/\¬W x y C y a b)\/W' v x y C y a b:=by
 obtain⟨⟨f1,f2,f3,f4,D⟩,fc,nd⟩:=E.facts;have hv:=E.v2;obtain⟨u,w,o,n⟩:=E.ry;have Y:=E.nd y;have m:∀c,EE x y C c y↔adj (row y) 2 c:=λc=>⟨λh=>(dB6 E).mp (j8 E h),λh=>bM4 E ((dB6 E).mpr h) (.inr rfl)⟩
 have F := @y9 x y C
 have U:∀c,¬EE x y C y c:=λc h=>by have:=(F h).1;grind
 have w1:W x y C y a b↔(a=2/\adj (row y) 2 b):=by unfold W;simp[f3,U,m]
 have w2:W' v x y C y a b↔(a=v/\adj (row y) 2 b)\/(a=2/\b=v):=by unfold W';simp[f3,D,Ne.symm f1,U,m]
 rw[w1,w2];unfold adj;rw[o]at Y;rw[o,n];have P:(u++2::w).take 1=(u++[2]).take 1:=by cases u <;> simp
 have t2:(u++2::v::w).take 1=(u++[2]).take 1:=by cases u <;> simp
 rw[P,t2];obtain⟨h,B,hh⟩:=tk1 (l:=u++[2]) (by simp)
 rw[B];have N:u++2::w++[h]=u++2::(w++[h]):=by simp
 have Q:u++2::v::w++[h]=u++2::v::(w++[h]):=by simp
 rw[N,Q];obtain⟨z,s,X⟩:∃z s,w++[h]=z::s:=by cases w with
  | nil=>exact⟨h,[],rfl⟩
  | cons c w=>exact⟨c,w++[h],rfl⟩
 have M:∀b,¬lin (z::s) 2 b:=λb q=>by rw[<- X]at q;have:=Q7 q;grind
 have J:∀b,¬lin (u++[2]) 2 b:=λb q=>by have:=Q7 q;grind
 rw[X,D4 2 (z::s) a b u,D4 2 (v::z::s) a b u,D4 2 (z::s) 2 b u,B9,B9,B9,B9];have n3:lin (u++[2]) a b->a≠2:=λh e=>J b (e▸h)
 have n4:lin (z::s) a b->a≠2:=λh e=>M b (e▸h)
 have:=J b
 have:=M b
 grind
theorem dV4 (E:Edit row row' v x y L C R)(Y:c∈C)(a b:Nat):adj (row' c) a b↔(adj (row c) a b/\¬W x y C c a b)\/W' v x y C c a b:=by
 obtain⟨⟨f1,f2,f3,f4,f5⟩,B,nd⟩:=E.facts;obtain⟨g1,g2,N,g4⟩:=B c Y;have hv:=E.v2;obtain⟨u,z,w,o,n⟩:=E.rc c Y;have J:=E.nd c;have e:∀d,EE x y C c d↔adj (row c) d 2:=λd=>⟨λh=>E.tri _ _ _ (j8 E h),λh=>bZ2 E ((dQ0 E).mpr h) (.inr Y)⟩
 have s:∀d,EE x y C d c↔adj (row c) 2 d:=λd=>⟨λh=>(dB6 E).mp (j8 E h),λh=>bM4 E ((dB6 E).mpr h) (.inl Y)⟩
 have w1:W x y C c a b↔(b=2/\adj (row c) a 2)\/(a=2/\adj (row c) 2 b):=by unfold W;simp[N,e,s]
 have w2:W' v x y C c a b↔(b=v/\adj (row c) a 2)\/(a=v/\adj (row c) 2 b):=by unfold W';simp[g1,g2,N,g4,e,s]
 rw[w1,w2];have P:v∉row c:=E.fresh c;unfold adj;rw[o]at J P;rw[o,n];have t1:(u++z::2::w).take 1=(u++[z]).take 1:=by cases u <;> simp
 have t2:(u++z::v::w).take 1=(u++[z]).take 1:=by cases u <;> simp
 rw[t1,t2];obtain⟨h,ht,hh⟩:=tk1 (l:=u++[z]) (by simp)
 rw[ht];have Q:u++z::2::w++[h]=u++z::2::(w++[h]):=by simp
 have D:u++z::v::w++[h]=u++z::v::(w++[h]):=by simp
 rw[Q,D];obtain⟨k,m,F⟩:∃k m,w++[h]=k::m:=by cases w with
  | nil=>exact⟨h,[],rfl⟩
  | cons c w=>exact⟨c,w++[h],rfl⟩
 have M:2∉w++[h]:=by grind
 rw[F]at M ⊢;have X:∀p q,lin (u++[z]) p q->p≠2/\q≠2:=λp q h=>by have:=aB6 h;grind
 have U:∀p q,lin (k::m) p q->p≠2/\q≠2:=λp q h=>by have:=aB6 h;grind
 have fl:∀p q r,lin (u++z::r::k::m) p q↔lin (u++[z]) p q\/(p=z/\q=r)\/(p=r/\q=k)\/lin (k::m) p q:=λp q r=>by
  rw[D4 z (r::k::m) p q u,B9,B9]
 rw[fl,fl,fl,fl]
 have:=X a b
 have:=U a b
 have:=X a 2
 have:=U a 2
 have:=X 2 b
 have:=U 2 b
 grind
theorem dW2 (E:Edit row row' v x y L C R)(e:q≠2)(z:q≠v)(s:q≠x)(m:q≠y)(U:q∉C)(a b:Nat):adj (row' q) a b↔(adj (row q) a b/\¬W x y C q a b)\/W' v x y C q a b:=by
 rw[E.rest q e z s m U];have w := @y9 x y C;have Y:∀c,¬EE x y C q c:=λc h=>by have:=(w h).1;grind
 have X:∀c,¬EE x y C c q:=λc h=>by have:=(w h).2;grind
 unfold W W'
 simp[e,z,s,m,Y,X]
theorem bR8 (E:Edit row row' v x y L C R)(q a b:Nat):adj (row' q) a b↔(adj (row q) a b/\¬W x y C q a b)\/W' v x y C q a b:=by
 by_cases e:q=2
 .subst e;exact dV3 E a b
 by_cases z:q=v
 .subst z;exact dV9 E a b
 by_cases s:q=x
 .subst s;exact dW7 E a b
 by_cases m:q=y
 .subst m;exact dV2 E a b
 by_cases w:q∈C
 .exact dV4 E w a b
 .exact dW2 E e z s m w a b
theorem Edit.tri' (E:Edit row row' v x y L C R)(q a b:Nat)(h:adj (row' q) a b):adj (row' a) b q:=by
 rw[bR8 E]at h ⊢;rcases h with⟨h,n⟩ | h
 .refine .inl ⟨E.tri _ _ _ h,?_⟩;unfold W at n ⊢;grind
 .right
  unfold W' at h ⊢;rcases h with h | h | h | h | h | h | h | h | h
  all_goals obtain⟨e,h⟩:=h
  all_goals simp[e,h]
theorem Edit.nd' (E:Edit row row' v x y L C R)(q:Nat):(row' q).Nodup:=by
 obtain⟨⟨f1,f2,f3,J,M⟩,N,D⟩:=E.facts;have Q:=E.v2;by_cases s:q=2
 .subst s;rw[E.new2]
  have:=E.fresh 2
  rw[E.two]at this;grind
 by_cases Y:q=v
 .subst Y;rw[E.newv];grind
 by_cases X:q=x
 .subst X;obtain⟨u,z,w,o,n⟩:=E.rx;have h1:=E.nd q;have e:=E.fresh q;rw[o]at h1 e;rw[n];grind
 by_cases U:q=y
 .subst U;obtain⟨u,w,o,n⟩:=E.ry;have h1:=E.nd q;have e:=E.fresh q;rw[o]at h1 e;rw[n];grind
 by_cases m:q∈C
 .obtain⟨u,z,w,o,n⟩:=E.rc q m;have h1:=E.nd q;have e:=E.fresh q;rw[o]at h1 e;rw[n];grind
 .rw[E.rest q s Y X U m];exact E.nd q
theorem Edit.self' (E:Edit row row' v x y L C R)(q:Nat):q∉row' q:=by
 obtain⟨⟨f1,f2,f3,J,M⟩,N,D⟩:=E.facts;have Q:=E.v2;have e:=E.self q;by_cases s:q=2
 .subst s;rw[E.two]at e;rw[E.new2];grind
 by_cases Y:q=v
 .subst Y;rw[E.newv];grind
 by_cases X:q=x
 .subst X;obtain⟨u,z,w,o,n⟩:=E.rx;rw[o]at e;rw[n];grind
 by_cases U:q=y
 .subst U;obtain⟨u,w,o,n⟩:=E.ry;rw[o]at e;rw[n];grind
 by_cases m:q∈C
 .obtain⟨u,z,w,o,n⟩:=E.rc q m;rw[o]at e;rw[n];grind
 .rw[E.rest q s Y X U m];exact e
end
structure S where
 k:Nat
 path:List Nat
 heap:List Nat
 i0:Nat->List Nat
 i1:Nat->List Nat
 i2:Nat->List Nat
 o0:Nat->Nat
 o1:Nat->Nat
 o2:Nat->Nat
def put {α:Type}(f:Nat->α)(a:Nat)(x:α):Nat->α:=λb=>if b=a then x else f b
theorem B5:put f a x a=x:=by simp[put]
theorem B6 (h:b≠a):put f a x b=f b:=by simp[put,h]
def S.row (s:S)(q:Nat):List Nat:=
 if q=0 then 1::(s.i0 0++[2]) else if q=1 then 2::((s.i1 1).reverse++[0]) else if q=2 then s.path.reverse++s.heap
 else if q<s.k+3 then s.o0 q::(s.i2 q++s.o1 q::(s.i0 q++s.o2 q::(s.i1 q).reverse)) else []
def S.first:S:={k:=0,path:=[0],heap:=[1],i0:=λ_=>[],i1:=λ_=>[],i2:=λ_=>[],o0:=λ_=>2,o1:=λ_=>2,o2:=λ_=>2}
def S.h1 (s:S)(a:Nat):List Nat:=(s.path.take a).reverse++s.heap
def S.step (s:S)(a b:Nat):S where
 k:=s.k+1
 path:=(s.k+3)::s.path.drop a
 heap:=(s.h1 a).drop b
 i0:=put s.i0 ((s.path.drop a).headD 0) (s.i0 ((s.path.drop a).headD 0)++[s.k+3])
 i1:=put s.i1 (((s.h1 a).drop b).headD 0) (s.i1 (((s.h1 a).drop b).headD 0)++[s.k+3])
 i2:=put s.i2 (s.k+3) ((s.h1 a).take b)
 o0:=put s.o0 (s.k+3) ((s.path.drop a).headD 0)
 o1:=put s.o1 (s.k+3) (((s.h1 a).drop b).headD 0)
 o2:=λq=>if q=s.k+3 then 2 else if q∈(s.h1 a).take b then s.k+3 else s.o2 q
structure bE2 (s:S):Prop where
 nd:∀q,(s.row q).Nodup
 self:∀q,q∉s.row q
 tri:∀q a b,adj (s.row q) a b->adj (s.row a) b q
 lt:∀q,∀p∈s.row q,p<s.k+3
 pe:∃p,s.path=p++[0]
 he:∃h,s.heap=h++[1]
 bd:∀q,(q∈s.path\/q∈s.heap)->q≠2/\(3<=q->s.o2 q=2)
 emp:∀q,s.k+3<=q->s.i0 q=[]/\s.i1 q=[]
theorem aV0 {s:S}{q:Nat}(h:s.k+3<=q):s.row q=[]:=by
 unfold S.row;rw[Ac (by lia),Ac (by lia),Ac (by lia),Ac (by lia)]
theorem N5 {s:S}{q:Nat}(h:3<=q)(h':q<s.k+3):s.row q=s.o0 q::(s.i2 q++s.o1 q::(s.i0 q++s.o2 q::(s.i1 q).reverse)):=by
 unfold S.row;rw[Ac (by lia),Ac (by lia),Ac (by lia),Ae h']
theorem aK5 {s:S}:s.row 2=s.path.reverse++s.heap:=by simp[S.row]
theorem aF8 {s:S}:s.row 0=1::(s.i0 0++[2]):=by simp[S.row]
theorem aU6 {s:S}:s.row 1=2::((s.i1 1).reverse++[0]):=by simp[S.row]
theorem bQ4:bE2 S.first where
 nd:=λq=>by
  unfold S.row S.first;dsimp only
  repeat' split
  all_goals simp
  lia
 self:=λq=>by
  unfold S.row S.first;dsimp only
  repeat' split
  all_goals simp
  all_goals lia
 tri:=λq a b h=>by
  have e:∀q a b,adj (S.first.row q) a b↔(q=0/\((a=1/\b=2)\/(a=2/\b=1)))\/(q=1/\((a=2/\b=0)\/(a=0/\b=2)))\/(q=2/\((a=0/\b=1)\/(a=1/\b=0))):=λq a b=>by
   unfold S.row S.first adj;dsimp only
   repeat' split
   all_goals (simp_all[lin])
   all_goals lia
  rw[e]at h ⊢;rcases h with⟨rfl,⟨rfl,rfl⟩ | ⟨rfl,rfl⟩⟩ | ⟨rfl,⟨rfl,rfl⟩ | ⟨rfl,rfl⟩⟩ | ⟨rfl,⟨rfl,rfl⟩ | ⟨rfl,rfl⟩⟩ <;> decide
 lt:=λq p=>by
  unfold S.row S.first;dsimp only
  repeat' split
  all_goals (simp <;> lia)
 pe:=⟨[],rfl⟩
 he:=⟨[],rfl⟩
 bd:=λq h=>by
  simp only[S.first,Ad8]at h
  lia
 emp:=λq _=>⟨rfl,rfl⟩
theorem bH9 (I:bE2 s)(ha:a<s.path.length)(hb:b<a+s.heap.length) :
  ∃x px y hy,s.path.drop a=x::px/\(s.h1 a).drop b=y::hy/\Edit s.row (s.step a b).row (s.k+3) x y px.reverse ((s.h1 a).take b) hy/\bE2 (s.step a b):=by
 obtain⟨p0,R⟩:=I.pe;obtain⟨h0,P⟩:=I.he;obtain⟨x,px,m⟩:∃x px,s.path.drop a=x::px:=by
  cases e:s.path.drop a with
  | nil=>have:=List.drop_eq_nil_iff.mp e;lia
  | cons x px=>exact⟨x,px,rfl⟩
 have hl:(s.h1 a).length=a+s.heap.length:=by
  unfold S.h1;simp;lia
 obtain⟨y,hy,Y⟩:∃y hy,(s.h1 a).drop b=y::hy:=by
  cases e:(s.h1 a).drop b with
  | nil=>have:=List.drop_eq_nil_iff.mp e;lia
  | cons y hy=>exact⟨y,hy,rfl⟩
 have U:s.row 2=px.reverse++x::((s.h1 a).take b++y::hy):=by
  rw[aK5,<- Y,Ad3]
  have:s.path=s.path.take a++x::px:=by rw[<- m,Ad3]
  conv=>lhs;rw[this]
  unfold S.h1
  simp
 have nd2:=I.nd 2
 have Q:=I.self 2
 have X:=I.lt 2
 rw[U]at nd2 Q X;have pl:∃p1,x::px=p1++[0]:=by
  rw[<- m,R];rw[R]at ha;simp at ha;rw[List.drop_append_of_le_length (by lia)]
  exact⟨_,rfl⟩
 have hyl:∃h1,y::hy=h1++[1]:=by
  rw[<- Y];unfold S.h1;rw[P,<- Ad7]
  have:(p0.length:Nat)+1=s.path.length:=by rw[R];simp
  have l1:((s.path.take a).reverse++h0).length=a+h0.length:=by simp;lia
  have l2:s.heap.length=h0.length+1:=by rw[P];simp
  rw[List.drop_append_of_le_length (by lia)]
  exact⟨_,rfl⟩
 have one_mem:1∈y::hy:=by obtain⟨h1,e⟩:=hyl;rw[e];simp
 have F:0∈x::px:=by obtain⟨h1,e⟩:=pl;rw[e];simp
 generalize D:(s.h1 a).take b=C at *;have B:∀c∈C,c≠0/\c≠1/\c≠2/\c<s.k+3:=by
  intro c M;refine⟨?_,?_,?_,X c (by simp[M])⟩
  .rintro rfl;grind
  .rintro rfl;grind
  .rintro rfl;grind
 have hx:x≠1/\x≠2/\x<s.k+3:=⟨by rintro rfl;grind,by rintro rfl;grind,X x (by simp)⟩
 have hyy:y≠0/\y≠2/\y<s.k+3:=⟨by rintro rfl;grind,by rintro rfl;grind,X y (by simp)⟩
 have N:∀q,q∈s.row 2->3<=q->s.o2 q=2:=λq J h3=>by
  rw[aK5]at J;simp at J;exact(I.bd q J).2 h3
 have o2x:3<=x->s.o2 x=2:=N x (by rw[U];simp)
 have o2y:3<=y->s.o2 y=2:=N y (by rw[U];simp)
 have o2c:∀c∈C,s.o2 c=2:=λc M=>by
  have:=B c M
  exact N c (by rw[U];simp[M]) (by lia)
 have xy:x≠y:=by rintro rfl;grind
 have xC:x∉C:=by grind
 have yC:y∉C:=by grind
 have E:Edit s.row (s.step a b).row (s.k+3) x y px.reverse C hy:=by
  refine⟨I.nd,I.self,I.tri,by lia,λq J=>?_,U,?_,aV0 (Aa7 _),?_,?_,?_,?_,?_⟩
  .have:=I.lt q _ J;lia
  .rw[N5 (by lia) (by simp[S.step])]
   have e1:=I.emp (s.k+3) (Aa7 _)
   simp only[S.step,m,Y,D,Cc,B5,if_true];rw[B6 (by lia),B6 (by lia),e1.1,e1.2]
   simp
  .rw[aK5];simp only[S.step,m,Y]
   simp
  .by_cases x0:x=0
   .subst x0;rcases Ac5 (1::s.i0 0) with e | ⟨u,z,e⟩
    .cases e
    .refine⟨u,z,[],?_,?_⟩
     .rw[aF8,<- Ab6,e];simp
     .rw[aF8];simp only[S.step,m,Cc,B5];rw[Ad7,<- Ab6,e];simp
   .have x3:3<=x:=by lia
    rcases Ac5 (s.o0 x::(s.i2 x++s.o1 x::s.i0 x)) with e | ⟨u,z,e⟩
    .cases e
    .refine⟨u,z,(s.i1 x).reverse,?_,?_⟩
     .rw[N5 x3 hx.2.2,o2x x3]
      have:s.o0 x::(s.i2 x++s.o1 x::(s.i0 x++2::(s.i1 x).reverse))=(s.o0 x::(s.i2 x++s.o1 x::s.i0 x))++2::(s.i1 x).reverse:=by simp
      rw[this,e];simp
     .rw[N5 x3 (by simp[S.step];lia)]
      simp only[S.step,m,Y,D,Cc,B5];rw[B6 (by lia),B6 (by lia),B6 (by lia),B6 xy,Ac (by lia),Ac xC,o2x x3]
      have:s.o0 x::(s.i2 x++s.o1 x::(s.i0 x++[s.k+3]++2::(s.i1 x).reverse))=(s.o0 x::(s.i2 x++s.o1 x::s.i0 x))++(s.k+3)::2::(s.i1 x).reverse:=by simp
      rw[this,e];simp
  .by_cases y1:y=1
   .subst y1;refine⟨[],(s.i1 1).reverse++[0],?_,?_⟩
    .rw[aU6];simp
    .rw[aU6];simp only[S.step,Y,Cc,B5]
     simp
   .have y3:3<=y:=by lia
    refine⟨s.o0 y::(s.i2 y++s.o1 y::s.i0 y),(s.i1 y).reverse,?_,?_⟩
    .rw[N5 y3 hyy.2.2,o2y y3];simp
    .rw[N5 y3 (by simp[S.step];lia)]
     simp only[S.step,m,Y,D,Cc,B5];rw[B6 (by lia),B6 (by lia),B6 (by lia),B6 (Ne.symm xy),Ac (by lia),Ac yC,o2y y3]
     simp
  .intro c M;obtain⟨c0,c1,c2,ck⟩:=B c M;have c3:3<=c:=by lia
   have cx:c≠x:=λe=>xC (e▸M)
   have cy:c≠y:=λe=>yC (e▸M)
   rcases Ac5 (s.o0 c::(s.i2 c++s.o1 c::s.i0 c)) with e | ⟨u,z,e⟩
   .cases e
   .refine⟨u,z,(s.i1 c).reverse,?_,?_⟩
    .rw[N5 c3 ck,o2c c M]
     have:s.o0 c::(s.i2 c++s.o1 c::(s.i0 c++2::(s.i1 c).reverse))=(s.o0 c::(s.i2 c++s.o1 c::s.i0 c))++2::(s.i1 c).reverse:=by simp
     rw[this,e];simp
    .rw[N5 c3 (by simp[S.step];lia)]
     simp only[S.step,m,Y,D,Cc];rw[B6 (by lia),B6 (by lia),B6 (by lia),B6 cx,B6 cy,Ac (by lia),Ae M]
     have:s.o0 c::(s.i2 c++s.o1 c::(s.i0 c++(s.k+3)::(s.i1 c).reverse))=(s.o0 c::(s.i2 c++s.o1 c::s.i0 c))++(s.k+3)::(s.i1 c).reverse:=by simp
     rw[this,e];simp
  .intro q q2 qv qx qy qC;by_cases q0:q=0
   .subst q0;rw[aF8,aF8];simp only[S.step,m,Cc];rw[B6 qx]
   by_cases q1:q=1
   .subst q1;rw[aU6,aU6];simp only[S.step,Y,Cc];rw[B6 qy]
   by_cases qk:q<s.k+3
   .rw[N5 (by lia) qk,N5 (by lia) (by simp[S.step];lia)]
    simp only[S.step,m,Y,D,Cc];rw[B6 qv,B6 qv,B6 qv,B6 qx,B6 qy,Ac qv,Ac qC]
   .rw[aV0 (s:=s.step a b) (by show s.k+1+3<=q;lia),aV0 (s:=s) (by lia)]
 refine⟨x,px,y,hy,m,Y,E,⟨E.nd',E.self',E.tri',λq p hp=>?_,?_,?_,λq J=>?_,λq J=>?_⟩⟩
 .show p<s.k+1+3
  by_cases h2:q=2
  .subst h2;rw[E.new2]at hp
   have:=X p
   grind
  by_cases hv:q=s.k+3
  .subst hv;rw[E.newv]at hp
   have:=X p
   grind
  by_cases qx:q=x
  .subst qx;obtain⟨u,z,w,o,n⟩:=E.rx
   have:=I.lt q p
   rw[o]at this;rw[n]at hp;grind
  by_cases qy:q=y
  .subst qy;obtain⟨u,w,o,n⟩:=E.ry
   have:=I.lt q p
   rw[o]at this;rw[n]at hp;grind
  by_cases qC:q∈C
  .obtain⟨u,z,w,o,n⟩:=E.rc q qC
   have:=I.lt q p
   rw[o]at this;rw[n]at hp;grind
  .rw[E.rest q h2 hv qx qy qC]at hp
   have:=I.lt q p hp
   lia
 .obtain⟨p1,e⟩:=pl;exact⟨(s.k+3)::p1,by simp only[S.step,m,e];simp⟩
 .obtain⟨h1,e⟩:=hyl;exact⟨h1,by simp only[S.step,Y,e]⟩
 .have hq':q=s.k+3\/q∈x::px\/q∈y::hy:=by
   simp only[S.step,m,Y]at J;simp at J ⊢;grind
  rcases hq' with rfl | hq'
  .exact⟨by lia,λ_=>by simp[S.step]⟩
  .have hm:q∈s.row 2:=by rw[U];grind
   have hnC:q∉C:=by grind
   refine⟨by rintro rfl;exact I.self 2 hm,λh3=>?_⟩
   simp only[S.step,D];rw[Ac (by have:=I.lt 2 q hm;lia),Ac hnC]
   exact N q hm h3
 .have J:s.k+1+3<=q:=J
  have:=I.emp q (by lia)
  simp only[S.step,m,Y,Cc];rw[B6 (by lia),B6 (by lia)]
  exact this
theorem bP1 (l:List Nat)(x y:Nat):lin (l.map f) x y↔∃a b,x=f a/\y=f b/\lin l a b:=by
 induction l with
 | nil=>simp[cA7]
 | cons c l e=>
  cases l with
  | nil=>simp[aA8]
  | cons d l=>
   simp only[Ac7,B9];simp only[Ac7]at e;rw[e];constructor
   .rintro (⟨rfl,rfl⟩ | ⟨a,b,w,z,h⟩)
    .exact⟨c,d,rfl,rfl,.inl ⟨rfl,rfl⟩⟩
    .exact⟨a,b,w,z,.inr h⟩
   .rintro⟨a,b,rfl,rfl,⟨rfl,rfl⟩ | h⟩
    .exact .inl ⟨rfl,rfl⟩
    .exact .inr ⟨a,b,rfl,rfl,h⟩
theorem bW7 (l:List Nat)(x y:Nat):adj (l.map f) x y↔∃a b,x=f a/\y=f b/\adj l a b:=by
 unfold adj;rw[<- bP1]
 simp
theorem o8 (u w:List Nat)(x y:Nat):adj (w++u) x y↔adj (u++w) x y:=by
 cases u with
 | nil=>simp
 | cons a u=>
  cases w with
  | nil=>simp
  | cons b w=>
   unfold adj;have e:b::w++a::u++(b::w++a::u).take 1=(b::w)++a::(u++[b]):=by simp
   have z:a::u++b::w++(a::u++b::w).take 1=(a::u)++b::(w++[a]):=by simp
   rw[e,z,D4 a (u++[b]) x y (b::w),D4 b (w++[a]) x y (a::u)];simp only[Ab6];exact Or.comm
theorem C7 (h:adj l a b):a∈l/\b∈l:=by
 have:=aB6 h
 simp only[Aa0]at this;exact⟨this.1.elim id Bn,this.2.elim id Bn⟩
theorem aG9 (h:a∈l):∃b,adj l a b:=by
 obtain⟨u,w,rfl⟩:=Ad5 h;obtain⟨b,r,e⟩:∃b r,(w++(u++[a]).take 1)=b::r:=by
  cases w with
  | nil=>cases u with
   | nil=>exact⟨a,[],rfl⟩
   | cons c u=>exact⟨c,[],rfl⟩
  | cons c w=>exact⟨c,_,rfl⟩
 refine⟨b,?_⟩;unfold adj;have t:(u++a::w).take 1=(u++[a]).take 1:=by cases u <;> simp
 rw[t,Ad7,Ab6,e,D4,B9];exact .inr (.inl ⟨rfl,rfl⟩)
theorem bL1 (h:b∈l):∃a,adj l a b:=by
 obtain⟨u,w,rfl⟩:=Ad5 h;rw[show u++b::w=u++(b::w) from rfl]
 rcases Ac5 (b::w++u) with e | ⟨r,a,e⟩
 .cases e
 .refine⟨a,(o8 u (b::w) a b).mp ?_⟩;cases r with
  | nil=>
   have:b::w++u=[a]:=by simpa using e
   have z:b=a:=by simpa using congrArg List.head? this
   subst z;rw[this];exact .inl ⟨rfl,rfl⟩
  | cons c r=>
   have s:b=c:=by simpa using congrArg List.head? e
   subst s;rw[e];unfold adj
   have:((b::r).concat a)++((b::r).concat a).take 1=(b::r)++a::[b]:=by simp
   rw[this,D4,B9];exact .inr (.inl ⟨rfl,rfl⟩)
theorem aJ1 (R:l.Nodup)(h1:adj l a b)(M:adj l a c):b=c:=by
 have N:=(C7 h1).1
 obtain⟨u,w,rfl⟩:=Ad5 N;have m:=(o8 u (a::w) a b).mpr h1;have Y:=(o8 u (a::w) a c).mpr M;have nd':(a::w++u).Nodup:=by grind
 unfold adj at m Y;generalize w++u=v at *;have e:a::w++u=a::(w++u):=rfl;cases X:w++u with
 | nil=>
  rw[e,X]at m Y
  simp[lin]at m Y
  lia
 | cons d s=>
  rw[e,X]at m Y nd';have q:∀z,lin (a::d::s++List.take 1 (a::d::s)) a z->z=d:=λz U=>by
   have J:a::d::s++List.take 1 (a::d::s)=a::d::(s++[a]):=by simp
   rw[J,B9]at U;rcases U with h | h
   .exact h.2
   .have:=Q7 (u:=d::s) (c:=a) (by simpa using h)
    grind
  rw[q b m,q c Y]
theorem bL7 (R:l.Nodup)(h1:adj l a c)(M:adj l b c):a=b:=by
 have N:=(C7 h1).2
 obtain⟨u,w,rfl⟩:=Ad5 N;have m:=(o8 u (c::w) a c).mpr h1;have Y:=(o8 u (c::w) b c).mpr M;have nd':(c::(w++u)).Nodup:=by grind
 have e:c::w++u=c::(w++u):=rfl
 rw[e]at m Y;generalize w++u=v at *;unfold adj at m Y;rcases Ac5 v with X | ⟨s,d,X⟩
 .subst X
  simp[lin]at m Y
  lia
 .subst X;have q:∀z,lin (c::s.concat d++List.take 1 (c::s.concat d)) z c->z=d:=λz U=>by
   have J:c::s.concat d++List.take 1 (c::s.concat d)=(c::s)++d::[c]:=by simp
   rw[J,D4,B9]at U;rcases U with h | h | h
   .have:=V1 (c:=c) (u:=s++[d]) h
    simp at nd'
    grind
   .exact h.1
   .exact h.elim
  rw[q a m,q b Y]
def mn (l:List Nat):Nat:=l.min?.getD 0
theorem bX3 (h:l≠[]):mn l∈l/\∀a∈l,mn l<=a:=by
 unfold mn;cases e:l.min? with
 | none=>exact absurd (List.min?_eq_none_iff.mp e) h
 | some m=>exact List.min?_eq_some_iff.mp e
def R4 (l:List Nat):List Nat:=l.drop (l.idxOf (mn l))++l.take (l.idxOf (mn l))
theorem j9 (l:List Nat):(R4 l).Perm l:=by
 unfold R4;exact(Dy).trans (by rw[Ad3])
theorem bA5 (l:List Nat)(a b:Nat):adj (R4 l) a b↔adj l a b:=by
 unfold R4;rw[o8,Ad3]
theorem bH7 (l:List Nat):(R4 l).length=l.length:=(j9 l).length_eq
theorem begun_mem:a∈R4 l↔a∈l:=(j9 l).mem_iff
theorem bM3:(R4 l).Nodup↔l.Nodup:=(j9 l).nodup_iff
structure Good (n:Nat)(r:Nat->List Nat):Prop where
 nd:∀q,(r q).Nodup
 self:∀q,q∉r q
 tri:∀q a b,adj (r q) a b->adj (r a) b q
 lt:∀q,∀p∈r q,p<n
 hi:∀q,n<=q->r q=[]
 two:∀q,q<n->2<=(r q).length
 out:adj (r 2) 1 0
 conn:∀R:Nat->Prop,R 0->(∀a b,R a->b∈r a->R b)->∀q,q<n->R q
 sum:((List.range n).map λq=>(r q).length).sum+12=6*n
 three:3<=n
theorem Good.sym {n:Nat}{r:Nat->List Nat}(G:Good n r){p q:Nat}(h:q∈r p):p∈r q:=by
 obtain⟨b,e⟩:=aG9 h;exact(C7 (G.tri _ _ _ e)).2
structure bO6 (s:S):Prop where
 two:∀q,q<s.k+3->2<=(s.row q).length
 o0:∀q,3<=q->q<s.k+3->s.o0 q<q/\s.o0 q∈s.row q
 sum:((List.range (s.k+3)).map λq=>(s.row q).length).sum+12=6*(s.k+3)
theorem bT1:bO6 S.first where
 two:=λq h=>by
  have h:q<3:=h
  match q,h with
  | 0,_=>decide
  | 1,_=>decide
  | 2,_=>decide
 o0:=λq h e=>by
  have e:q<3:=e
  lia
 sum:=by decide
theorem bS1 {n:Nat}{f g:Nat->Nat}{l:List Nat}(X:l.Nodup)(z:∀q∈l,q<n)(h:∀q,q<n->q∉l->f q=g q) :
  ((List.range n).map f).sum+(l.map g).sum=((List.range n).map g).sum+(l.map f).sum:=by
 induction l generalizing f with
 | nil=>
  have:(List.range n).map f=(List.range n).map g:=Az λq w=>h q (Ab5.mp w) (by simp)
  simp[this]
 | cons c l Y=>
  have M:=z c (by simp)
  have nd':=Aa5.mp X
  have m:∀(f:Nat->Nat) (x:Nat),((List.range n).map λq=>if q=c then x else f q).sum+f c=((List.range n).map f).sum+x:=by
   intro f x
   clear h Y z X nd'
   induction n with
   | zero=>lia
   | succ n s=>
    rw[Cn,Ad2,Ad2,List.sum_append,List.sum_append];by_cases e:c=n
    .subst e
     have:(List.range c).map (λq=>if q=c then x else f q)=(List.range c).map f:=Az λq w=>by
      have:=Ab5.mp w
      rw[Ac (by lia)]
     rw[this]
     simp
     lia
    .have:=s (by lia)
     simp only[Ac7,Cs,List.sum_cons,List.sum_nil];rw[Ac (Ne.symm e)]
     lia
  have N:=m f (g c)
  have:=Y (f:=λq=>if q=c then g c else f q) nd'.2 (λq w=>z q (by simp[w])) (λq w J=>by
   by_cases e:q=c
   .subst e;simp
   .simp only[Ac e];exact h q w (by simp[e,J]))
  have U:(l.map λq=>if q=c then g c else f q)=l.map f:=Az λq w=>by
   rw[Ac (by rintro rfl;exact nd'.1 w)]
  rw[U]at this;simp only[Ac7,List.sum_cons]
  lia
theorem cD6 (I:bE2 s)(M:bO6 s)(ha:a<s.path.length)(hb:b<a+s.heap.length):bO6 (s.step a b):=by
 obtain⟨x,px,y,F,ex,ey,E,I'⟩:=bH9 I ha hb;obtain⟨⟨f1,f2,f3,f4,f5⟩,fc,nd⟩:=E.facts;have hx:x<s.k+3:=I.lt 2 x (by rw[E.two];simp)
 have hyl:y<s.k+3:=I.lt 2 y (by rw[E.two];simp)
 have lx:((s.step a b).row x).length=(s.row x).length+1:=by
  obtain⟨u,z,w,o,n⟩:=E.rx;rw[o,n];simp;lia
 have ly:((s.step a b).row y).length=(s.row y).length+1:=by
  obtain⟨u,w,o,n⟩:=E.ry;rw[o,n];simp;lia
 have P:∀q,q≠2->q≠s.k+3->q≠x->q≠y->((s.step a b).row q).length=(s.row q).length:=λq N Y U J=>by
  by_cases D:q∈(s.h1 a).take b
  .obtain⟨u,z,w,o,n⟩:=E.rc q D;rw[o,n];simp
  .rw[E.rest q N Y U J D]
 have B:((s.step a b).row 2).length=px.length+3+F.length:=by rw[E.new2];simp;lia
 have g2:(s.row 2).length=px.length+2+((s.h1 a).take b).length+F.length:=by rw[E.two];simp only[Ab7,Ar,Ae1];lia
 have lv:((s.step a b).row (s.k+3)).length=((s.h1 a).take b).length+3:=by rw[E.newv];simp only[Ab7,Ar,List.length_nil]
 have R:(s.row (s.k+3)).length=0:=by rw[E.oldv];rfl
 refine⟨λq m=>?_,λq Q m=>?_,?_⟩
 .have m:q<s.k+1+3:=m
  by_cases N:q=2
  .rw[N,B];lia
  by_cases Y:q=s.k+3
  .rw[Y,lv];lia
  have:=M.two q (by lia)
  by_cases U:q=x
  .rw[U,lx];rw[U]at this;lia
  by_cases J:q=y
  .rw[J,ly];rw[J]at this;lia
  rw[P q N Y U J];exact this
 .have hq':q<s.k+1+3:=m
  refine⟨?_,by rw[N5 Q m];simp⟩
  by_cases Y:q=s.k+3
  .subst Y;simp only[S.step,ex,Cc,B5];exact hx
  .simp only[S.step];rw[B6 Y];exact(M.o0 q Q (by lia)).1
 .show((List.range (s.k+1+3)).map λq=>((s.step a b).row q).length).sum+12=6*(s.k+1+3)
  have sc:=bS1 (n:=s.k+1+3) (f:=λq=>((s.step a b).row q).length) (g:=λq=>(s.row q).length) (l:=[2,s.k+3,x,y]) (by
   have:=E.v2
   simp only[Aa5,Aa1,Ac2,or_false,not_or,List.nodup_nil,not_false_eq_true,and_true];exact⟨⟨by lia,Ne.symm f2,Ne.symm f3⟩,⟨Ne.symm f4,Ne.symm f5⟩,f1⟩) (by
   intro q m;simp only[Aa1,Ac2,or_false]at m
   lia) (by
   intro q m X;simp only[Aa1,Ac2,or_false,not_or]at X;exact P q X.1 X.2.1 X.2.2.1 X.2.2.2)
  simp only[Ac7,Cs,List.sum_cons,List.sum_nil]at sc;have e:((List.range (s.k+1+3)).map λq=>(s.row q).length).sum=((List.range (s.k+3)).map λq=>(s.row q).length).sum:=by
   rw[show s.k+1+3=(s.k+3)+1 by lia,Cn,Ad2,List.sum_append]
   simp only[Ac7,Cs,List.sum_cons,List.sum_nil,R]
   lia
  have:=M.sum
  rw[B,lv,lx,ly,g2,R,e]at sc
  lia
theorem cK7 (I:bE2 s)(M:bO6 s):Good (s.k+3) s.row where
 nd:=I.nd
 self:=I.self
 tri:=I.tri
 lt:=I.lt
 hi:=λq h=>aV0 h
 two:=M.two
 out:=by
  obtain⟨p,X⟩:=I.pe;obtain⟨h,Y⟩:=I.he;rw[aK5,X,Y];unfold adj
  have:(p++[0]).reverse++(h++[1])++((p++[0]).reverse++(h++[1])).take 1=(0::p.reverse++h)++1::[0]:=by simp
  rw[this,D4,B9];exact .inr (.inl ⟨rfl,rfl⟩)
 conn:=λR w z q N=>by
  have m:∀b∈s.row 0,R b:=λb e=>z 0 b w e
  have D:(1:Nat)∈s.row 0:=by rw[aF8];simp
  have F:(2:Nat)∈s.row 0:=by rw[aF8];simp
  have sym:∀p q,q∈s.row p->p∈s.row q:=λp q h=>by
   obtain⟨b,e⟩:=aG9 h;exact(C7 (I.tri _ _ _ e)).2
  induction q using Nat.strongRecOn with
  | _ q Q=>
   by_cases J:3<=q
   .obtain⟨h1,U⟩:=M.o0 q J N;exact z _ _ (Q _ h1 (by lia)) (sym _ _ U)
   .have:q=0\/q=1\/q=2:=by lia
    rcases this with rfl | rfl | rfl
    .exact w
    .exact m 1 D
    .exact m 2 F
 sum:=M.sum
 three:=by lia
structure Nm (n:Nat)(f:Nat->Nat):Prop where
 lt:∀v,v<n->f v<n
 inj:∀v w,v<n->w<n->f v=f w->v=w
 c0:f 0=0
 c1:f 1=1
 c2:f 2=2
theorem aZ7 {l:List Nat}(s:l.Nodup):∀{m:List Nat},(∀x∈l,x∈m)->l.length<=m.length:=by
 induction l with
 | nil=>intro m _;simp
 | cons a l z=>
  intro m h;have nd':=Aa5.mp s;have e:a∈m:=h a (by simp)
  have:=z nd'.2 (m:=m.erase a) λx w=>(List.mem_erase_of_ne (by rintro rfl;exact nd'.1 w)).mpr (h x (by simp[w]))
  have Y:=Dc e
  have:=Di e
  simp only[Ar]
  lia
theorem Nm.surj (h:Nm n f)(q:Nat)(M:q<n):∃v,v<n/\f v=q:=by
 have N:((List.range n).map f).Nodup:=by
  rw[Ac6,Ae0];refine Dd ?_ (Ac6.mp Dl);intro a b X U s e;exact s (h.inj a b (Ab5.mp X) (Ab5.mp U) e)
 have sub:(List.range n).map f ⊆ List.range n:=λx z=>by
  obtain⟨v,Y,rfl⟩:=Aa8.mp z;exact Ab5.mpr (h.lt v (Ab5.mp Y))
 have:q∈(List.range n).map f:=Classical.byContradiction λJ=>by
  have w:=Ab5.mpr M
  have:=aZ7 N (m:=(List.range n).erase q) λx z=>(List.mem_erase_of_ne (by rintro rfl;exact J z)).mpr (sub z)
  have R:=Dc w
  have:=Di w
  simp only[Aa3,Bs]at *
  lia
 obtain⟨v,Y,e⟩:=Aa8.mp this;exact⟨v,Ab5.mp Y,e⟩
theorem Good.named (G:Good n r)(F:Nm n f)(h:∀v,v<n->r' (f v)=R4 ((r v).map f))(N:∀q,n<=q->r' q=[]):Good n r':=by
 have bR8:∀v,v<n->∀x y,adj (r' (f v)) x y↔∃a b,x=f a/\y=f b/\adj (r v) a b:=λv w x y=>by rw[h v w,bA5,bW7]
 have s:∀v,v<n->∀x,x∈r' (f v)↔∃a,a∈r v/\x=f a:=λv w x=>by
  rw[h v w,begun_mem,Aa8];exact⟨λ⟨a,h1,D⟩=>⟨a,h1,D.symm⟩,λ⟨a,h1,D⟩=>⟨a,h1,D.symm⟩⟩
 have Q:∀q,n<=q\/∃v,v<n/\f v=q:=λq=>by
  by_cases z:n<=q
  .exact .inl z
  .exact .inr (F.surj q (by lia))
 have len:∀v,v<n->(r' (f v)).length=(r v).length:=λv w=>by rw[h v w,bH7,Aa3]
 refine⟨λq=>?_,λq=>?_,λq a b Y=>?_,λq p hp=>?_,N,λq z=>?_,?_,λR h0 hR q z=>?_,?_,G.three⟩
 .rcases Q q with z | ⟨v,w,rfl⟩
  .rw[N q z];simp
  .rw[h v w,bM3,Ac6,Ae0];refine Dd ?_ (Ac6.mp (G.nd v));intro a b m X U e;exact U (F.inj a b (G.lt v a m) (G.lt v b X) e)
 .rcases Q q with z | ⟨v,w,rfl⟩
  .rw[N q z];simp
  .intro hm;obtain⟨a,m,e⟩:=(s v w _).mp hm;exact G.self v (F.inj v a w (G.lt v a m) e▸m)
 .rcases Q q with z | ⟨v,w,rfl⟩
  .rw[N q z]at Y;exact Y.elim
  .obtain⟨c,d,rfl,rfl,M⟩:=(bR8 v w _ _).mp Y;exact(bR8 c (G.lt v c (C7 M).1) _ _).mpr ⟨d,v,rfl,rfl,G.tri _ _ _ M⟩
 .rcases Q q with z | ⟨v,w,rfl⟩
  .rw[N q z]at hp;exact absurd hp (by simp)
  .obtain⟨a,m,rfl⟩:=(s v w _).mp hp;exact F.lt a (G.lt v a m)
 .obtain⟨v,w,rfl⟩:=F.surj q z;rw[len v w];exact G.two v w
 .have:=G.three
  have:=(bR8 2 (by lia) 1 0).mpr ⟨1,0,F.c1.symm,F.c0.symm,G.out⟩
  rwa [F.c2]at this
 .obtain⟨v,w,rfl⟩:=F.surj q z
  have:=G.three
  refine G.conn (λv=>v<n->R (f v)) (λ_=>by rw[F.c0];exact h0) (λa b m X hbn=>?_) v w w
  by_cases J:a<n
  .exact hR _ _ (m J) ((s a J _).mpr ⟨b,X,rfl⟩)
  .rw[G.hi a (by lia)]at X;exact absurd X (by simp)
 .have p:((List.range n).map f).Perm (List.range n):=by
   refine(List.perm_ext_iff_of_nodup ?_ Dl).mpr λq=>?_
   .rw[Ac6,Ae0];refine Dd ?_ (Ac6.mp Dl);intro a b m X U e;exact U (F.inj a b (Ab5.mp m) (Ab5.mp X) e)
   .constructor
    .intro z;obtain⟨v,w,rfl⟩:=Aa8.mp z;exact Ab5.mpr (F.lt v (Ab5.mp w))
    .intro z;obtain⟨v,w,rfl⟩:=F.surj q (Ab5.mp z);exact Aa8.mpr ⟨v,Ab5.mpr w,rfl⟩
  have B:=(p.map λq=>(r' q).length).sum_nat
  have P:((List.range n).map f).map (λq=>(r' q).length)=(List.range n).map λv=>(r v).length:=by
   rw[Ae2];exact Az λv w=>len v (Ab5.mp w)
  rw[P]at B;rw[<- B];exact G.sum
def pv (F:Nat->Nat):Nat->Nat
 | 0=>0
 | i+1=>F i
def gst (F G:Nat->Nat):Nat->S
 | 0=>S.first
 | i+1=>(gst F G i).step (F i-pv F i) (G i-pv G i)
structure Rws (F G:Nat->Nat)(m:Nat):Prop where
 f1:∀i,i<m->pv F i<=F i
 f2:∀i,i<m->F i<=i
 g1:∀i,i<m->pv G i<=G i
 g2:∀i,i<m->G i<=F i
structure dV1 (F G:Nat->Nat)(i:Nat):Prop where
 inv:bE2 (gst F G i)
 more:bO6 (gst F G i)
 k:(gst F G i).k=i
 p:(gst F G i).path.length+pv F i=1+i
 h:(gst F G i).heap.length+pv G i=1+pv F i
 le:pv F i<=i
 le2:pv G i<=pv F i
theorem N9 (R:Rws F G m):∀i,i<=m->dV1 F G i
 | 0,_=>⟨bQ4,bT1,rfl,rfl,rfl,Aa7 _,Aa7 _⟩
 | i+1,hi=>by
  have I:=N9 R i (by lia)
  have f1:=R.f1 i (by lia)
  have f2:=R.f2 i (by lia)
  have U:=R.g1 i (by lia)
  have s:=R.g2 i (by lia)
  have h1:=I.p
  have J:=I.h
  have e:F i-pv F i<(gst F G i).path.length:=by lia
  have w:G i-pv G i<(F i-pv F i)+(gst F G i).heap.length:=by lia
  obtain⟨x,N,y,M,Y,X,E,z⟩:=bH9 I.inv e w;refine⟨z,cD6 I.inv I.more e w,?_,?_,?_,?_,s⟩
  .show(gst F G i).k+1=i+1
   rw[I.k]
  .show(((gst F G i).k+3)::(gst F G i).path.drop (F i-pv F i)).length+F i=1+(i+1)
   rw[Ar,Cg]
   lia
  .show(((gst F G i).h1 (F i-pv F i)).drop (G i-pv G i)).length+G i=1+F i
   rw[Cg];unfold S.h1;rw[Ab7,Ae1,Ad1]
   lia
  .show F i<=i+1
   lia
theorem bP8 (R:Rws F G m):Good (m+3) (gst F G m).row:=by
 have I:=N9 R m (Aa7 _)
 have:=cK7 I.inv I.more
 rwa [I.k]at this
inductive Wy (o:Nat->Nat):Nat->List Nat->Prop where
 | corner {q:Nat}:q<3->Wy o q [q]
 | step {q:Nat} {l:List Nat}:3<=q->Wy o (o q) l->Wy o q (q::l)
theorem aO0 (F G:Nat->Nat):∀i,(gst F G i).k=i
 | 0=>rfl
 | i+1=>by show(gst F G i).k+1=i+1;rw[aO0 F G i]
def pa (F G:Nat->Nat)(v:Nat):List Nat:=(gst F G (v-2)).path.tail
def hp (F G:Nat->Nat)(v:Nat):List Nat:=(gst F G (v-2)).heap
theorem U8 (F G:Nat->Nat)(i:Nat):(gst F G (i+1)).path=(i+3)::pa F G (i+3):=by
 show((gst F G i).k+3)::(gst F G i).path.drop (F i-pv F i)=_
 rw[aO0];rfl
theorem bX8 (F G:Nat->Nat)(i:Nat):pa F G (i+3)=(gst F G i).path.drop (F i-pv F i):=rfl
theorem dL7 (F G:Nat->Nat)(i:Nat):(gst F G (i+1)).o0 (i+3)=(pa F G (i+3)).headD 0:=by
 show put (gst F G i).o0 ((gst F G i).k+3) _ (i+3)=_
 rw[aO0,B5];rfl
theorem dJ0 (F G:Nat->Nat)(i:Nat):(gst F G (i+1)).o1 (i+3)=(hp F G (i+3)).headD 0:=by
 show put (gst F G i).o1 ((gst F G i).k+3) _ (i+3)=_
 rw[aO0,B5];rfl
theorem dD1 (F G:Nat->Nat)(i:Nat):∀j,i<j->(gst F G j).o0 (i+3)=(pa F G (i+3)).headD 0
 | 0,h=>by lia
 | j+1,h=>by
  by_cases e:i=j
  .subst e;exact dL7 F G i
  .rw[<- dD1 F G i j (by lia)]
   show put (gst F G j).o0 ((gst F G j).k+3) _ (i+3)=_
   rw[aO0,B6 (by lia)]
theorem dD8 (F G:Nat->Nat)(i:Nat):∀j,i<j->(gst F G j).o1 (i+3)=(hp F G (i+3)).headD 0
 | 0,h=>by lia
 | j+1,h=>by
  by_cases e:i=j
  .subst e;exact dJ0 F G i
  .rw[<- dD8 F G i j (by lia)]
   show put (gst F G j).o1 ((gst F G j).k+3) _ (i+3)=_
   rw[aO0,B6 (by lia)]
theorem dF3 (F G:Nat->Nat):∀j q,3<=q->q<j+3->(gst F G j).o2 q=2\/(q<(gst F G j).o2 q/\(gst F G j).o2 q<j+3)
 | 0,q,h,h'=>by lia
 | j+1,q,h,h'=>by
  have e:(gst F G (j+1)).o2 q=if q=(gst F G j).k+3 then 2 else if q∈((gst F G j).h1 (F j-pv F j)).take (G j-pv G j) then(gst F G j).k+3 else(gst F G j).o2 q:=rfl
  rw[e,aO0];by_cases w:q=j+3
  .simp[w]
  .rw[Ac w]
   have:=dF3 F G j q h (by lia)
   split
   .lia
   .lia
def Ch (F G:Nat->Nat)(l:List Nat):Prop:=∀u x r,l=u++x::r->3<=x->r=pa F G x
theorem Ch.drop (h:Ch F G l)(a:Nat):Ch F G (l.drop a):=λu x r e w=>by
 refine h (l.take a++u) x r ?_ w;rw[Ad7,<- e,Ad3]
theorem cC7 (F G:Nat->Nat):∀i,Ch F G (gst F G i).path
 | 0=>by
  intro u x r e w;have e:[0]=u++x::r:=e;cases u with
  | nil=>simp at e;lia
  | cons y u=>simp at e
 | i+1=>by
  intro u x r e w;rw[U8]at e;cases u with
  | nil=>
   simp at e
   rw[<- e.1,<- e.2]
  | cons y u=>
   simp only[Ab6,Bd]at e;exact(cC7 F G i).drop _ u x r (by rw[<- bX8];exact e.2) w
section
variable {F G:Nat->Nat}{m:Nat}
structure At (F G:Nat->Nat)(i:Nat):Prop where
 pe:∃p,pa F G (i+3)=p++[0]
 he:∃h,hp F G (i+3)=h++[1]
 nd:((i+3)::(pa F G (i+3)++hp F G (i+3))).Nodup
 lt:∀x,x∈pa F G (i+3)\/x∈hp F G (i+3)->x<i+3/\x≠2
theorem bC9 (R:Rws F G m)(hi:i<m):At F G i:=by
 have I:=N9 R (i+1) (by lia)
 have z:=I.inv.nd 2
 rw[aK5,U8]at z;have lt:=I.inv.lt 2;rw[aK5,U8,I.k]at lt;have s:=I.inv.bd;obtain⟨p,e⟩:=I.inv.pe;obtain⟨h,Y⟩:=I.inv.he;rw[U8]at e;have nd':((i+3)::(pa F G (i+3)++hp F G (i+3))).Nodup:=by
  have w:(((i+3)::pa F G (i+3)).reverse++(gst F G (i+1)).heap).Perm ((i+3)::(pa F G (i+3)++hp F G (i+3))):=by
   show(((i+3)::pa F G (i+3)).reverse++(gst F G (i+1)).heap).Perm (((i+3)::pa F G (i+3))++(gst F G (i+1)).heap)
   exact(List.reverse_perm _).append_right _
  exact w.nodup_iff.mp z
 refine⟨?_,⟨h,Y⟩,nd',λx hx=>?_⟩
 .cases p with
  | nil=>simp at e
  | cons y p=>simp only[Ab6,Bd]at e;exact⟨p,e.2⟩
 .have h1:=lt x (by
   rcases hx with hx | hx
   .simp[hx]
   .exact Ac1 _ hx)
  have X:=(s x (by
   rcases hx with hx | hx
   .left;rw[U8];simp[hx]
   .right;exact hx)).1
  have U:x≠i+3:=by
   rintro rfl
   have:=(Aa5.mp nd').1
   exact this (Aa0.mpr hx)
  lia
theorem dT0 (R:Rws F G m)(hi:i<m):∃r,pa F G (i+3)=(gst F G m).o0 (i+3)::r:=by
 rw[dD1 F G i m hi];obtain⟨p,e⟩:=(bC9 R hi).pe;cases h:pa F G (i+3) with
 | nil=>rw[h]at e;simp at e
 | cons x r=>exact⟨r,rfl⟩
theorem dU0 (R:Rws F G m)(hi:i<m):∃r,hp F G (i+3)=(gst F G m).o1 (i+3)::r:=by
 rw[dD8 F G i m hi];obtain⟨p,e⟩:=(bC9 R hi).he;cases h:hp F G (i+3) with
 | nil=>rw[h]at e;simp at e
 | cons x r=>exact⟨r,rfl⟩
theorem dW0 (R:Rws F G m):∀v,3<=v->v<m+3->Wy (gst F G m).o0 v (v::pa F G v):=by
 intro v;induction v using Nat.strongRecOn with
 | ind v J=>
  intro U M;obtain⟨i,rfl⟩:∃i,v=i+3:=⟨v-3,by lia⟩
  have hi:i<m:=by lia
  have A:=bC9 R hi
  obtain⟨r,e⟩:=dT0 R hi;generalize Y:(gst F G m).o0 (i+3)=x at e;refine .step U ?_;rw[Y,e];have N:=A.lt x (.inl (by rw[e];simp))
  have w:=A.nd
  obtain⟨p,z⟩:=A.pe;obtain⟨h,he⟩:=A.he;by_cases c:x<3
  .have:r=[]:=by
    have X:x=0:=by
     have:x≠1:=by
      rintro rfl;rw[e,he]at w;simp at w
     lia
    subst X;rw[e]at z w;cases p with
    | nil=>simpa using z
    | cons y p=>
     simp only[Ab6,Bd]at z;rw[z.2]at w;simp at w
   rw[this];exact .corner c
  .have s:=(cC7 F G i).drop (F i-pv F i)
   rw[<- bX8,e]at s;rw[s [] x r rfl (by lia)]
   exact J x (by lia) (by lia) (by lia)
theorem dW6 (R:Rws F G m):∀v,3<=v->v<m+3->∃t,Wy (gst F G m).o1 v (v::t)/\(v::t).Nodup/\(∀x∈t,x<v/\x≠2/\x∉pa F G v)/\∃p,v::t=p++[1]:=by
 intro v;induction v using Nat.strongRecOn with
 | ind v ih=>
  intro N hv;obtain⟨i,rfl⟩:∃i,v=i+3:=⟨v-3,by lia⟩
  have hi:i<m:=by lia
  have A:=bC9 R hi
  obtain⟨r,e⟩:=dU0 R hi;generalize M:(gst F G m).o1 (i+3)=x at e;have U:=A.lt x (.inr (by rw[e];simp))
  have D:=A.nd
  have J:x∉pa F G (i+3):=λY=>by
   rw[e]at D
   have:=(Aa4.mp (Aa5.mp D).2).2.2 x Y x (by simp)
   exact this rfl
  obtain⟨p,pe⟩:=A.pe;by_cases c:x<3
  .have x1:x=1:=by
    have:x≠0:=by
     rintro rfl;exact J (by rw[pe];simp)
    lia
   subst x1;refine⟨[1],.step N (by rw[M];exact .corner c),by simp,λx X=>?_,[i+3],rfl⟩
   simp at X;subst X
   exact⟨U.1,by lia,J⟩
  .obtain⟨t,w,nt,Q,q,hq⟩:=ih x (by lia) (by lia) (by lia)
   refine⟨x::t,.step N (by rw[M];exact w),?_,λy s=>?_,(i+3)::q,by rw[hq];rfl⟩
   .refine Aa5.mpr ⟨λY=>?_,nt⟩
    rcases Aa1.mp Y with z | z
    .lia
    .have:=(Q _ z).1;lia
   .rcases Aa1.mp s with z | z
    .subst z;exact⟨U.1,U.2,J⟩
    .obtain⟨B,P,a3⟩:=Q y z;refine⟨by lia,P,λY=>a3 ?_⟩
     obtain⟨j,rfl⟩:∃j,x=j+3:=⟨x-3,by lia⟩
     exact sub (F:=F) (G:=G) (j:=j) (i:=i) (by lia) y (by rw[<- bX8];exact Y) B
where
 sub {F G:Nat->Nat} {j:Nat}:∀{i:Nat},j<i->∀y,y∈(gst F G i).path.drop (F i-pv F i)->y<j+3->y∈pa F G (j+3)
  | 0,h,_,_,_=>by lia
  | i+1,h,y,s,hl=>by
   have s:=De s
   rw[U8]at s;rcases Aa1.mp s with z | z
   .lia
   .by_cases e:j=i
    .subst e;exact z
    .exact sub (i:=i) (by lia) y (by rw[<- bX8];exact z) hl
theorem dV8 (R:Rws F G m):∀n v,m+3-v=n->3<=v->v<m+3->∃t,Wy (gst F G m).o2 v (v::t)/\(v::t).Nodup/\(∀x∈t,(v<x/\x<m+3)\/x=2)/\∃p,v::t=p++[2]:=by
 intro n;induction n using Nat.strongRecOn with
 | ind n D=>
  intro v B s M;rcases dF3 F G m v s M with e | ⟨h1,X⟩
  .refine⟨[2],.step s (by rw[e];exact .corner (by lia)),by simp;lia,λx N=>.inr (by simpa using N),[v],rfl⟩
  .obtain⟨t,w,nt,Y,q,J⟩:=D (m+3-(gst F G m).o2 v) (by lia) ((gst F G m).o2 v) rfl (by lia) X
   refine⟨(gst F G m).o2 v::t,.step s w,?_,λy Q=>?_,v::q,by rw[J];rfl⟩
   .refine Aa5.mpr ⟨λU=>?_,nt⟩
    rcases Aa1.mp U with z | z
    .lia
    .rcases Y _ z with a | a <;> lia
   .rcases Aa1.mp Q with z | z
    .exact .inl (by lia)
    .rcases Y _ z with a | a
     .exact .inl (by lia)
     .exact .inr a
theorem cX4 (R:Rws F G m)(X:3<=v)(U:v<m+3):∃t0 t1 t2:List Nat,Wy (gst F G m).o0 v (v::t0)/\Wy (gst F G m).o1 v (v::t1)/\Wy (gst F G m).o2 v (v::t2) /\
  (∃p,v::t0=p++[0])/\(∃p,v::t1=p++[1])/\(∃p,v::t2=p++[2])/\(v::(t0++(t1++t2))).Nodup/\∀x∈t0++(t1++t2),x<m+3:=by
 obtain⟨i,rfl⟩:∃i,v=i+3:=⟨v-3,by lia⟩
 have A:=bC9 R (i:=i) (by lia)
 have w0:=dW0 R _ X U
 obtain⟨t1,w1,P,s,N⟩:=dW6 R _ X U;obtain⟨t2,w2,n2,Y,Q⟩:=dV8 R _ _ rfl X U;obtain⟨p,pe⟩:=A.pe;have B:(pa F G (i+3)).Nodup:=(Aa4.mp (Aa5.mp A.nd).2).1;have M:∀x∈pa F G (i+3),x<i+3/\x≠2:=λx w=>A.lt x (.inl w)
 refine⟨_,t1,t2,w0,w1,w2,⟨(i+3)::p,by rw[pe];rfl⟩,N,Q,Aa5.mpr ⟨λD=>?_,Aa4.mpr ⟨B,Aa4.mpr ⟨(Aa5.mp P).2,(Aa5.mp n2).2,λx w y J=>?_⟩,λx w y J=>?_⟩⟩,λx w=>?_⟩
 .rcases Aa0.mp D with z | z
  .have:=M _ z;lia
  .rcases Aa0.mp z with z | z
   .have:=s _ z;lia
   .have:=Y _ z;lia
 .have b1:=s x w
  have b2:=Y y J
  lia
 .have b0:=M x w
  rcases Aa0.mp J with z | z
  .intro e;subst e;exact(s x z).2.2 w
  .have:=Y y z;lia
 .rcases Aa0.mp w with z | z
  .have:=M _ z;lia
  .rcases Aa0.mp z with z | z
   .have:=s _ z;lia
   .have:=Y _ z;lia
end
structure Bt (F G:Nat->Nat)(m:Nat)(f:Nat->Nat)(d t:List (List Nat)):Prop where
 R:Rws F G m
 N:Nm (m+3) f
 dl:d.length=m+3
 dr:∀v,v<m+3->d[f v]? = some (R4 (((gst F G m).row v).map f))
 tl:t.length=m
 tr:∀v,3<=v->v<m+3->t[f v-3]? = some [f ((gst F G m).o0 v),f ((gst F G m).o1 v),f ((gst F G m).o2 v)]
def og (t:List (List Nat))(c q:Nat):Nat:=((t[q-3]?.getD []))[c]?.getD 0
theorem Nm.lo (N:Nm n f)(h:3<=n)(w:q<n):f q<3↔q<3:=by
 constructor
 .intro Y;have z:=N.c0;have s:=N.c1;have m:=N.c2;rcases (show f q=0\/f q=1\/f q=2 by lia) with e | e | e
  .have:=N.inj q 0 w (by lia) (by lia);lia
  .have:=N.inj q 1 w (by lia) (by lia);lia
  .have:=N.inj q 2 w (by lia) (by lia);lia
 .intro Y;have z:=N.c0;have s:=N.c1;have m:=N.c2;rcases (show q=0\/q=1\/q=2 by lia) with e | e | e <;> subst e <;> lia
theorem Wy.map {o o':Nat->Nat}{f:Nat->Nat}{n:Nat}(e:∀q,q<n->(f q<3↔q<3))(ho:∀q,3<=q->q<n->o' (f q)=f (o q)){q:Nat}{l:List Nat}(w:Wy o q l)(z:∀x∈l,x<n):Wy o' (f q) (l.map f):=by
 induction w with
 | @corner q h=>exact .corner ((e q (z q (by simp))).mpr h)
 | @step q l h w ih=>
  have s:=z q (by simp)
  refine .step ?_ ?_
  .have:=e q s;lia
  .rw[ho q h s];exact ih λx m=>z x (by simp[m])
theorem aG4 {f:Nat->Nat}{n:Nat}(inj:∀v w,v<n->w<n->f v=f w->v=w){l:List Nat}(X:l.Nodup)(s:∀x∈l,x<n):(l.map f).Nodup:=by
 rw[Ac6,Ae0];exact Dd (λ{a b} m Y z e=>z (inj a b (s a m) (s b Y) e)) (Ac6.mp X)
theorem Bt.ways (B:Bt F G m f d t)(h3:3<=q)(X:q<m+3):∃t0 t1 t2:List Nat,Wy (og t 0) q (q::t0)/\Wy (og t 1) q (q::t1)/\Wy (og t 2) q (q::t2) /\
  (∃p,q::t0=p++[0])/\(∃p,q::t1=p++[1])/\(∃p,q::t2=p++[2])/\(q::(t0++(t1++t2))).Nodup/\∀x∈t0++(t1++t2),x<m+3:=by
 obtain⟨v,s,rfl⟩:=B.N.surj q X;have v3:3<=v:=by have:=B.N.lo (by lia) s;lia
 obtain⟨t0,t1,t2,w0,w1,w2,⟨p0,Q⟩,⟨p1,D⟩,⟨p2,P⟩,nd,lt⟩:=cX4 B.R v3 s;have w:∀q,q<m+3->(f q<3↔q<3):=λq X=>B.N.lo (by lia) X
 have U:∀q,3<=q->q<m+3->og t 0 (f q)=f ((gst F G m).o0 q):=λq h Y=>by unfold og;rw[B.tr q h Y];rfl
 have J:∀q,3<=q->q<m+3->og t 1 (f q)=f ((gst F G m).o1 q):=λq h Y=>by unfold og;rw[B.tr q h Y];rfl
 have M:∀q,3<=q->q<m+3->og t 2 (f q)=f ((gst F G m).o2 q):=λq h Y=>by unfold og;rw[B.tr q h Y];rfl
 have l0:∀x∈v::t0,x<m+3:=λx e=>by rcases Aa1.mp e with rfl | z;exact s;exact lt x (by simp[z])
 have l1:∀x∈v::t1,x<m+3:=λx e=>by rcases Aa1.mp e with rfl | z;exact s;exact lt x (by simp[z])
 have l2:∀x∈v::t2,x<m+3:=λx e=>by rcases Aa1.mp e with rfl | z;exact s;exact lt x (by simp[z])
 have la:∀x∈v::(t0++(t1++t2)),x<m+3:=λx e=>by rcases Aa1.mp e with rfl | z;exact s;exact lt x z
 refine⟨t0.map f,t1.map f,t2.map f,w0.map w U l0,w1.map w J l1,w2.map w M l2,⟨p0.map f,?_⟩,⟨p1.map f,?_⟩,⟨p2.map f,?_⟩,?_,λx e=>?_⟩
 .rw[<- Ac7,Q];simp[B.N.c0]
 .rw[<- Ac7,D];simp[B.N.c1]
 .rw[<- Ac7,P];simp[B.N.c2]
 .have:=aG4 B.N.inj nd la
  simpa using this
 .rw[<- Ad2,<- Ad2]at e;obtain⟨y,hy,rfl⟩:=Aa8.mp e;exact B.N.lt y (lt y hy)
section
variable {F G:Nat->Nat}{m:Nat}{f:Nat->Nat}{d t:List (List Nat)}
def trn (d:List (List Nat))(q:Nat):List Nat:=d[q]?.getD []
theorem Bt.good (B:Bt F G m f d t):Good (m+3) (trn d):=by
 refine Good.named (bP8 B.R) B.N (λv w=>?_) λq e=>?_
 .unfold trn;rw[B.dr v w];rfl
 .unfold trn;rw[Ad6 (by rw[B.dl];exact e)];rfl
def oc (s:S):Nat->Nat->Nat
 | 0=>s.o0
 | 1=>s.o1
 | _=>s.o2
theorem Bt.og (B:Bt F G m f d t)(s:c<3)(w:3<=v)(z:v<m+3):og t c (f v)=f (oc (gst F G m) c v):=by
 unfold TT.og;rw[B.tr v w z];rcases (show c=0\/c=1\/c=2 by lia) with e | e | e <;> subst e <;> rfl
theorem bD9 (Y:c<3)(w:3<=v)(z:v<s.k+3):oc s c v∈s.row v:=by
 rw[N5 w z];rcases (show c=0\/c=1\/c=2 by lia) with e | e | e <;> subst e <;> simp[oc]
theorem Bt.out_mem (B:Bt F G m f d t)(w:c<3)(X:3<=q)(Y:q<m+3):TT.og t c q∈trn d q/\TT.og t c q<m+3:=by
 obtain⟨v,e,rfl⟩:=B.N.surj q Y;have v3:3<=v:=by have:=B.N.lo (by lia) e;lia
 have s:(gst F G m).k=m:=aO0 F G m
 have z:TT.og t c (f v)∈trn d (f v):=by
  unfold trn;rw[B.dr v e,B.og w v3 e];exact begun_mem.mpr (Aa8.mpr ⟨_,bD9 w v3 (by rw[s];exact e),rfl⟩)
 exact⟨z,B.good.lt _ _ z⟩
end
variable {F G:Nat->Nat}{m:Nat}
theorem R8 {a b:List Nat}(h:(a++b).Nodup):∀x,x∈a->x∈b->False:=λx h1 e=>(Aa4.mp h).2.2 x h1 x e rfl
structure dT4 (F G:Nat->Nat)(i:Nat):Prop where
 k:(gst F G i).k=i
 a:F i-pv F i<(gst F G i).path.length
 b:G i-pv G i<((gst F G i).h1 (F i-pv F i)).length
 pl:(gst F G i).path.length<=i+1
 hl:((gst F G i).h1 (F i-pv F i)).length<=i+2
 lo:∀x∈((gst F G i).h1 (F i-pv F i)).take (G i-pv G i),3<=x/\x<i+3
 px:∃x r,(gst F G i).path.drop (F i-pv F i)=x::r/\x<i+3/\((gst F G i).i0 x).length<=i+3
 hy:∃y r,((gst F G i).h1 (F i-pv F i)).drop (G i-pv G i)=y::r/\y<i+3/\((gst F G i).i1 y).length<=i+3
 e0:(gst F G i).i0 (i+3)=[]
 e1:(gst F G i).i1 (i+3)=[]
theorem cI8 {l:List Nat}{n:Nat}(w:l.Nodup)(h:∀x∈l,x<n):l.length<=n:=by
 have:=aZ7 w (m:=List.range n) λx e=>Ab5.mpr (h x e)
 simpa using this
theorem row_len (I:bE2 s)(q:Nat):(s.row q).length<=s.k+3:=cI8 (I.nd q) (I.lt q)
theorem dM3 (I:bE2 s)(h:q<s.k+3)(w:q≠2)(h1:q≠1):(s.i0 q).length<=s.k+3:=by
 have:=row_len I q
 by_cases e:q=0
 .subst e;rw[aF8]at this;simp at this;lia
 .rw[N5 (by lia) h]at this;simp at this;lia
theorem dJ2 (I:bE2 s)(h:q<s.k+3)(w:q≠2)(e:q≠0):(s.i1 q).length<=s.k+3:=by
 have:=row_len I q
 by_cases h1:q=1
 .subst h1;rw[aU6]at this;simp at this;lia
 .rw[N5 (by lia) h]at this;simp at this;lia
theorem bH4 (R:Rws F G m)(hi:i<m):dT4 F G i:=by
 have I:=N9 R i (by lia)
 have A:=bC9 R hi
 have f1:=R.f1 i hi
 have f2:=R.f2 i hi
 have g1:=R.g1 i hi
 have g2:=R.g2 i hi
 have h1:=I.p
 have h2:=I.h
 have M:=I.inv.nd 2
 have lt:=I.inv.lt 2
 rw[aK5]at M lt;rw[I.k]at lt;have hx1:((gst F G i).h1 (F i-pv F i)).length=(F i-pv F i)+(gst F G i).heap.length:=by
  unfold S.h1;rw[Ab7,Ae1,Ad1];lia
 obtain⟨p,hp⟩:=A.pe;obtain⟨h,hh⟩:=A.he;have P:(gst F G i).path.drop (F i-pv F i)=p++[0]:=by rw[<- hp];rfl
 have e2:((gst F G i).h1 (F i-pv F i)).drop (G i-pv G i)=h++[1]:=by rw[<- hh];rfl
 have X:∀x,x∈(gst F G i).path\/x∈(gst F G i).heap->x<i+3/\x≠2:=λx hx=>⟨lt x (by rcases hx with hx | hx <;> simp[hx]),(I.inv.bd x hx).1⟩
 have s:∀x∈(gst F G i).h1 (F i-pv F i),x∈(gst F G i).path.take (F i-pv F i)\/x∈(gst F G i).heap:=λx hx=>by
  unfold S.h1 at hx;simpa using hx
 have Y:∀x∈(gst F G i).h1 (F i-pv F i),x∈(gst F G i).path\/x∈(gst F G i).heap:=λx hx=>(s x hx).imp Bn id
 have N:((gst F G i).path.take (F i-pv F i)++(gst F G i).path.drop (F i-pv F i)).Nodup:=by
  rw[Ad3]
  have:=(Aa4.mp M).1
  exact(List.reverse_perm _).nodup_iff.mp this
 have ndh:((gst F G i).h1 (F i-pv F i)).Nodup:=by
  unfold S.h1;refine Aa4.mpr ⟨?_,(Aa4.mp M).2.1,λx hx y hy e=>?_⟩
  .exact(List.reverse_perm _).nodup_iff.mpr (Aa4.mp N).1
  .subst e;exact R8 M x (by simpa using Bn (Dt.mp hx)) hy
 refine⟨I.k,by lia,by lia,by lia,by lia,λx hx=>?_,?_,?_,?_,?_⟩
 .have D:=Bn hx
  obtain⟨J,B⟩:=X x (Y x D);refine⟨?_,J⟩;have n1:x≠1:=λe=>by
   subst e;have nd':=ndh;rw[<- Ad3 (G i-pv G i) ((gst F G i).h1 (F i-pv F i))]at nd';exact R8 nd' 1 hx (by rw[e2];simp)
  have n0:x≠0:=λe=>by
   subst e;have z:0∈(gst F G i).path.drop (F i-pv F i):=by rw[P];simp
   rcases s 0 D with w | w
   .exact R8 N 0 w z
   .exact R8 M 0 (by simpa using De z) w
  lia
 .cases U:(gst F G i).path.drop (F i-pv F i) with
  | nil=>rw[P]at U;simp at U
  | cons x r=>
   have Q:x∈(gst F G i).path:=De (by rw[U];simp:x∈(gst F G i).path.drop (F i-pv F i))
   obtain⟨J,B⟩:=X x (.inl Q);refine⟨x,r,rfl,J,?_⟩;have n1:x≠1:=λe=>by
    subst e;obtain⟨h',hh'⟩:=I.inv.he;exact R8 M 1 (by simpa using Q) (by rw[hh'];simp)
   have:=dM3 I.inv (q:=x) (by rw[I.k];exact J) B n1
   rwa [I.k]at this
 .cases U:((gst F G i).h1 (F i-pv F i)).drop (G i-pv G i) with
  | nil=>rw[e2]at U;simp at U
  | cons y r=>
   have Q:y∈(gst F G i).h1 (F i-pv F i):=De (by rw[U];simp:y∈((gst F G i).h1 (F i-pv F i)).drop (G i-pv G i))
   obtain⟨J,B⟩:=X y (Y y Q);refine⟨y,r,rfl,J,?_⟩;have n0:y≠0:=λe=>by
    subst e;have z:0∈(gst F G i).path.drop (F i-pv F i):=by rw[P];simp
    rcases s 0 Q with w | w
    .exact R8 N 0 w z
    .exact R8 M 0 (by simpa using De z) w
   have:=dJ2 I.inv (q:=y) (by rw[I.k];exact J) B n0
   rwa [I.k]at this
 .exact(I.inv.emp (i+3) (by rw[I.k];lia)).1
 .exact(I.inv.emp (i+3) (by rw[I.k];lia)).2
theorem cP1 (R:Rws F G m):∀i,i<=m->(gst F G i).i2 2=[]
 | 0,_=>rfl
 | i+1,h=>by
  show put (gst F G i).i2 ((gst F G i).k+3) (((gst F G i).h1 (F i-pv F i)).take (G i-pv G i)) 2=[]
  rw[B6 (by lia)]
  exact cP1 R i (by lia)
end TT
namespace LV
open PySem L2
theorem cO3 {K:Frag}{ρ:List Sl}(w:List Sl){c:TT}{t u:TS}{b:Bool}{R:AE}(h:T K c ρ b)(h1:b=true->W K t ρ {R with nx:=λr=>r=w})(m:b=false->W K u ρ {R with nx:=λr=>r=w})(s:R.nx w):W K (cY2 c t u) ρ R:=
 X4 h (λe=>(h1 e).weak (λr z=>by rw[z];exact s) (λ_ z=>z) (λ_ z=>z) (λ_ z=>z) (λ_ z=>z)) (λe=>(m e).weak (λr z=>by rw[z];exact s) (λ_ z=>z) (λ_ z=>z) (λ_ z=>z) (λ_ z=>z))
def Sl.nb:Sl->Bool
 | .bor _=>false
 | _=>true
theorem i6:M9 (x::r)=(x.nb&&M9 r):=by cases x <;> rfl
theorem S3 (h:(Z6 0 n)[i]? = some d):d=.int (i:Int)/\i<n:=by
 unfold Z6 at h;have e:=(Ab0.mp h).1;have e:i<n:=by simpa using e
 rw[Aa9,List.getElem?_range e]at h;refine⟨?_,e⟩
 have:=(Ab4 h).symm
 simpa using this
theorem N7:(Z6 lo n).length=n:=by simp[Z6]
def nI (l:List Nat):List PyData:=l.map λ(x:Nat)=>PyData.int (x:Int)
def lN (l:List Nat):PyData:=.list (nI l)
def oN (l:List Nat):OT:=.lst (l.map λ(x:Nat)=>OT.leaf (.int (x:Int)))
def fl (F:Nat->Nat)(m:Nat):List Int:=(List.range m).map λi=>(F i:Int)
def L7 (k:Nat)(o0 o1 o2:Nat->Nat):OT:=.lst ((List.range k).map λj=>oN [o0 (j+3),o1 (j+3),o2 (j+3)])
def F2 (n:Nat)(i0 i1 i2:Nat->List Nat):OT:=.lst ((List.range n).map λq=>.tup [oN (i0 q),oN (i1 q),oN (i2 q)])
theorem E5 (l:List Nat):(nI l).length=l.length:=by simp[nI]
theorem J6 (l:List Nat):G5 (nI l)=true:=e7 (λ_=>rfl) l
theorem aF2 (l l':List Nat):nI (l++l')=nI l++nI l':=by simp[nI]
theorem dL8 (l:List Nat):nI l.reverse=(nI l).reverse:=by simp[nI]
theorem cB4 (l:List Nat):(oN l).data=lN l:=by
 unfold oN lN nI;simp only[OT.data];rw[aB4 (g:=λx:Nat=>PyData.int (x:Int)) (λ_=>rfl)]
theorem cE8 (k:Nat)(o0 o1 o2:Nat->Nat):(L7 k o0 o1 o2).data=.list ((List.range k).map λj=>lN [o0 (j+3),o1 (j+3),o2 (j+3)]):=by
 unfold L7;simp only[OT.data];rw[aB4 (λj=>cB4 _)]
theorem cE7 (n:Nat)(i0 i1 i2:Nat->List Nat):(F2 n i0 i1 i2).data=.list ((List.range n).map λq=>.tuple [lN (i0 q),lN (i1 q),lN (i2 q)]):=by
 unfold F2;simp only[OT.data];rw[aB4 (g:=λq=>PyData.tuple [lN (i0 q),lN (i1 q),lN (i2 q)]) (λq=>by simp only[OT.data,OT.datas,cB4])]
theorem bX4 (h:i<m):atI ((fl F m).map PyData.int) (i:Int)=some (.int (F i:Int)):=W2 i rfl (by simp[fl,h])
theorem O3 (h:q<n):((List.range n).map f)[q]? = some (f q):=by simp[h]
theorem X7 (s:q<n)(h1:h (f q)=g q)(m:∀j,j≠q->f j=g j):((List.range n).map f).modify q h=(List.range n).map g:=by
 rw[P8 (O3 s),h1];refine List.ext_getElem? λj=>?_
 rw[List.getElem?_set];by_cases e:q=j
 .subst e;simp[s]
 .rw[Ac e];by_cases w:j<n
  .rw[O3 w,O3 w,m j (λz=>e z.symm)]
  .rw[Ad6 (by simp;lia),Ad6 (by simp;lia)]
section
variable {n q k j:Nat}{i0 i1 i2:Nat->List Nat}{o0 o1 o2:Nat->Nat}
theorem aE9 (h:q<n):(F2 n i0 i1 i2).at [q]=some (.tup [oN (i0 q),oN (i1 q),oN (i2 q)]):=by
 show((F2 n i0 i1 i2).kids[q]?).bind _=_
 unfold F2;simp only[OT.kids];rw[O3 h];rfl
theorem cW8 (h:q<n):(F2 n i0 i1 i2).at ([q]++[0])=some (oN (i0 q)):=by rw[aI7 (aE9 h)];rfl
theorem dA2 (h:q<n):(F2 n i0 i1 i2).at ([q]++[1])=some (oN (i1 q)):=by rw[aI7 (aE9 h)];rfl
theorem cC8 (h:q<n):(F2 n i0 i1 i2).at ([q]++[2])=some (oN (i2 q)):=by rw[aI7 (aE9 h)];rfl
theorem dF9 (h:j<k):(L7 k o0 o1 o2).at [j]=some (oN [o0 (j+3),o1 (j+3),o2 (j+3)]):=by
 show((L7 k o0 o1 o2).kids[j]?).bind _=_
 unfold L7;simp only[OT.kids];rw[O3 h];rfl
theorem cU8 (h:q<n)(l:List Nat):(F2 n i0 i1 i2).put ([q]++[0]) (oN l)=F2 n (TT.put i0 q l) i1 i2:=by
 unfold F2;rw[List.singleton_append,OT.put_lst]
 congr 1
 refine X7 h ?_ λj e=>by simp only[TT.B6 e]
 rw[OT.put_tup,TT.B5];rfl
theorem cL6 (h:q<n)(l:List Nat):(F2 n i0 i1 i2).put ([q]++[1]) (oN l)=F2 n i0 (TT.put i1 q l) i2:=by
 unfold F2;rw[List.singleton_append,OT.put_lst]
 congr 1
 refine X7 h ?_ λj e=>by simp only[TT.B6 e]
 rw[OT.put_tup,TT.B5];rfl
theorem cM2 (h:q<n)(l:List Nat):(F2 n i0 i1 i2).put ([q]++[2]) (oN l)=F2 n i0 i1 (TT.put i2 q l):=by
 unfold F2;rw[List.singleton_append,OT.put_lst]
 congr 1
 refine X7 h ?_ λj e=>by simp only[TT.B6 e]
 rw[OT.put_tup,TT.B5];rfl
theorem cW1 (h:j<k)(c:Nat):(L7 k o0 o1 o2).put [j] (oN [o0 (j+3),o1 (j+3),c])=L7 k o0 o1 (TT.put o2 (j+3) c):=by
 unfold L7;rw[OT.put_lst]
 congr 1
 refine X7 h ?_ λi hi=>by simp only[TT.B6 (show i+3≠j+3 by lia)]
 rw[OT.put_nil,TT.B5]
theorem bE9 (l:List Nat)(x:Nat):OT.lst ((l.map λ(x:Nat)=>OT.leaf (.int (x:Int)))++[.leaf (.int (x:Int))])=oN (l++[x]):=by simp[oN]
theorem cL1 (h:q<n)(x:Nat):(F2 n i0 i1 i2).put ([]++[q]++[0]) (.lst (((i0 q).map λ(x:Nat)=>OT.leaf (.int (x:Int)))++[.leaf (.int (x:Int))]))=F2 n (TT.put i0 q (i0 q++[x])) i1 i2:=by
 rw[bE9];exact cU8 h _
theorem cS5 (h:q<n)(x:Nat):(F2 n i0 i1 i2).put ([]++[q]++[1]) (.lst (((i1 q).map λ(x:Nat)=>OT.leaf (.int (x:Int)))++[.leaf (.int (x:Int))]))=F2 n i0 (TT.put i1 q (i1 q++[x])) i2:=by
 rw[bE9];exact cL6 h _
theorem bO9 (h:q<n)(x:Nat):(F2 n i0 i1 i2).put ([]++[q]++[2]) (.lst (((i2 q).map λ(x:Nat)=>OT.leaf (.int (x:Int)))++[.leaf (.int (x:Int))]))=F2 n i0 i1 (TT.put i2 q (i2 q++[x])):=by
 rw[bE9];exact cM2 h _
theorem bY4:TT.put (TT.put f q a) q b=TT.put f q b:=by
 funext x;by_cases e:x=q
 .rw[e,TT.B5,TT.B5]
 .rw[TT.B6 e,TT.B6 e,TT.B6 e]
theorem cZ8:OT.lst (((List.range n).map λq=>OT.tup [oN (i0 q),oN (i1 q),oN (i2 q)])++[.tup [.lst [],.lst [],.lst []]])=F2 (n+1) (TT.put i0 n []) (TT.put i1 n []) (TT.put i2 n []):=by
 unfold F2;rw[Cn,Ad2]
 congr 2
 .refine Az λa e=>?_
  have:=Ab5.mp e
  rw[TT.B6 (by lia),TT.B6 (by lia),TT.B6 (by lia)]
 .simp[TT.B5,oN]
theorem cV5 (a b c:Nat):OT.lst (((List.range k).map λj=>oN [o0 (j+3),o1 (j+3),o2 (j+3)])++[.lst [.leaf (.int (a:Int)),.leaf (.int (b:Int)),.leaf (.int (c:Int))]])=L7 (k+1) (TT.put o0 (k+3) a) (TT.put o1 (k+3) b) (TT.put o2 (k+3) c):=by
 unfold L7;rw[Cn,Ad2]
 congr 2
 .refine Az λx e=>?_
  have:=Ab5.mp e
  rw[TT.B6 (by lia),TT.B6 (by lia),TT.B6 (by lia)]
 .simp[TT.B5,oN]
end
theorem aG3 (h:q<n):atI ((List.range n).map f) (q:Int)=some (f q):=W2 q rfl (O3 h)
theorem dA8 {p h:List Nat}{s:TT.S}(e:s.path=p++[0])(w:s.heap=h++[1]):s.row 2=0::(p.reverse++h)++[1]:=by
 rw[TT.aK5,e,w];simp
section
variable {K:Frag}{ρ:List Sl}{m:Bool}{t ta tb:TE}{l l':List Nat}{ds es:List PyData}
theorem Q3 (e:E K false ta ρ (lN l))(w:E K false tb ρ (lN l'))(z:l.length+l'.length<=100000):EF K (tOp (cP6 K) ta tb) ρ (nI (l++l')):=by
 rw[aF2];exact bE6 e w (J6 l) (J6 l') (by rw[E5,E5];unfold PySem.sizeLine;lia)
theorem bV4 (e:E K false ta ρ (lN l)):EF K (cB3 K ta) ρ (nI l.reverse):=by
 rw[dL8];exact dJ5 e (J6 l)
theorem EF.toN (h:EF K t ρ (nI l))(e:l=l'):E K m t ρ (lN l'):=by subst e;exact EF.e' h
end
end LV
namespace LV
open PySem PySem.Spec PyProof.Rows L2
theorem aY5 (l:Addr)(items:Array Value)(n:Nat)(Q:Option Addr)(F:Array (Option Value))(x:Value)(e:Value->Bool)(j:Nat)(hj:j<items.size)(he:e items[j]=true)
  (P:∀(m:Nat) (hm:m<items.size),m<j->e items[m]=false) :
  Meets (Builtin.«tuple.index» {pos:=[.ref l,x]}) λA R s=>
   s.heap.get? l=some {cls:=.type "tuple",dict:=Q,data:=.seq items n,slots:=F}/\(∀y∈items,SeqAt.EqAt A.in1 s y x (e y)) /\
    R (.ok (.ret (.int (j:Int) s.toks))) {s with toks:=s.toks+1}:=by
 intro D w A R s ⟨ho,hq,hr⟩;unfold Builtin.«tuple.index»;have B:selfAndSome "tuple.index" "index" 1 3 {pos:=[.ref l,x]}=pure (.ref l,[x]):=by rfl
 rw[B];refine Aa (Ab ?_);have ht:s.heap.get? l=some {cls:=.type "tuple",dict:=Q,data:=.seq items n,slots:=F}:=ho;show wpAny _ _ (Builtin.Tuple.tupleItemsOf (.ref l) >>= _) _ _ s;refine Aa (wpAny_tupleItemsOf ht rfl ?_);refine Aa (Ab ?_);refine Aa (Ab ?_);refine Aa ?_;rw[Std.Legacy.Range.forIn_eq_forIn_range'];have hs:([0:min items.size items.size]:Std.Legacy.Range).size=items.size:=by simp[Std.Legacy.Range.size]
 rw[hs];refine wpAny_forIn_list _ (λY b N=>(∃i,i<=j/\Y=List.range' i (items.size-i) 1)/\b=(none,())/\N=s) _ ?_ ?_ _ _ ⟨⟨0,Ci _,rfl⟩,rfl,rfl⟩
 .rintro i Y b N ⟨⟨M,hi,z⟩,rfl,rfl⟩;have X:M<items.size:=by lia
  obtain⟨k,hk⟩:∃k,items.size-M=k+1:=⟨items.size-M-1,by lia⟩
  rw[hk,List.range'_succ,Bd]at z;obtain⟨rfl,rfl⟩:=z;dsimp only;rw[Af X];dsimp only;refine Aa (hq _ (Array.getElem_mem X) _ _ _ _ ?_);by_cases U:i=j
  .subst U;rw[Ae he];refine Aa ?_;unfold retInt;refine Aa (wpAny_mkInt ?_);exact Ab (Ab (Ab hr))
  .rw[P i X (by lia),Ac (by decide)]
   exact Ab ⟨⟨i+1,by lia,by rw[show items.size-(i+1)=k by lia]⟩,rfl,rfl⟩
 .rintro b N ⟨⟨i,hi,J⟩,rfl,rfl⟩
  exfalso
  have:=congrArg List.length J
  simp at this
  lia
section
variable {X:Cx}
theorem aL4 (K:Frag)(h:X.K=K:=by rfl):MtR X "tuple.index" (λx xs H Q=>∃(p:Addr) (l:List Int) (k:Int),x=.ref p/\xs=[.int k]/\SqT K H p (l.map V.int)/\k∈l/\Q (.int (l.idxOf k)) H):=by
 subst h;intro aA s σ H x xs v us Q I rx rv ⟨p,l,k,B,P,hq,hk,q⟩;subst B;subst P;cases rx;obtain⟨u,rfl,t,rfl⟩:=T1 rv;obtain⟨its,r,hT,hz⟩:=I.tuple hq;obtain⟨⟨oc,od,N,R⟩,e,c,n,d⟩:=hT;dsimp only at c d;subst c;subst d;have Y:=r.length;rw[Aa3]at Y;have w:l.idxOf k<l.length:=Bg.mpr hk;have at_:∀(j:Nat) (w:j<its.toArray.size),∃t,its.toArray[j]=Value.int (l[j]'(by simpa[Y]using w)) t:=λj w=>by
  have U:j<l.length:=by simpa[Y]using w
  obtain⟨u,h1,t,rfl⟩:=r.get (i:=j) (x:=.int l[j]) (by rw[Aa9,Aa2 U];rfl)
  have:=(Ab0.mp h1).2
  exact⟨t,by simpa using this⟩
 refine call_meets F.slot_tuple_index ⟨_,e,rfl⟩ F.entry_tuple_index (F.args_tuple_index_2 _ _) (aY5 p its.toArray n od R (.int k t) (λy=>match y with | .int i _=>i==k | _=>false) (l.idxOf k) (by simpa[<- Y]using w) ?_ ?_) ⟨e,λy hy=>?_,?_⟩
 .obtain⟨D,e'⟩:=at_ (l.idxOf k) (by simpa[<- Y]using w)
  rw[e'];simp
 .intro m M J;obtain⟨D,e'⟩:=at_ m M;rw[e']
  have:l[m]'(by simpa[Y]using M)≠k:=λz=>by
   have h1:m<l.length:=by simpa[Y]using M
   exact bS6 h1 J z
  simpa using this
 .obtain⟨j,w,rfl⟩:=Array.mem_iff_getElem.mp hy;obtain⟨D,e'⟩:=at_ j w;rw[e'];exact SeqAt.EqAt.int_int _ _ _ _
 .exact⟨.int _,H,I.tok _,⟨_,rfl⟩,q⟩
theorem aC2 {P:Program}{w:World}{A:Around}{E:Ef}{s:Shared}{t sl:Addr}{items:Array Value}{vl vu:Value}{lo hi:Option Int}{Q:Ef}(e:IsTup s.heap t items)(J:s.heap.IsSliceOf sl vl vu .none)(R:IsPart vl lo)(D:IsPart vu hi)
  (M:HT.sIx items.size 0 lo=0/\HT.sIx items.size items.size hi=items.size) (h:Q (.ref t) s):wpAny (model P w) A (getItem (.ref t) (.ref sl)) Q E s:=by
 obtain⟨os,U,Y,N⟩:=id J;have m:s.TypeIs (.ref sl) "slice" := ⟨os,U,Y⟩;unfold getItem
 try with_reducible refine Bk ?_
 first | refine Aa (Ab ?_) | skip
 refine Aa (wpAny_sequenceKey e.typeIs (by decide) ?_)
 refine Aa (Bj (name:=Str.ofString "__getitem__") e.typeIs Bw
  (Bf Bw e.typeIs entry_tuple_getitem ?_ (args_tuple_getitem _ _)))
 show wpAny _ _ (Builtin.Tuple.tupleItemsOf (.ref t) >>= _) _ _ s
 refine Aa (tupleItemsOf_ e ?_);refine Aa (wpAny_typeOf m ?_);rw[Ae (by decide)]
 refine Aa (HT.Z5 J R D ?_);have z:((((HT.sIx items.size 0 lo:Nat):Int)==0&&(1:Int)==1&&(HT.sIx items.size items.size hi-HT.sIx items.size 0 lo)==items.size)=true):=by
  rw[M.1,M.2];simp
 show wpAny _ _ (if(((HT.sIx items.size 0 lo:Nat):Int)==0&&(1:Int)==1&&(HT.sIx items.size items.size hi-HT.sIx items.size 0 lo)==items.size)=true then _ else _) _ _ s
 rw[Ae z];refine Aa ?_;unfold Builtin.Tuple.tupleIsExact;refine Aa (wpAny_typeOf e.typeIs (Ab ?_));rw[Ae (by decide)]
 exact Aa (wpAny_rule (Ab ⟨_,rfl,Ab h⟩))
def dU2 (K:Frag):V->Option Int->Option Int->Hp->VK->Prop:=λx lo hi H Q=>∃a xs,x=.ref a/\SqT K H a xs /\
 (HT.sIx xs.length 0 lo=0/\HT.sIx xs.length xs.length hi=xs.length->Q (.ref a) H) /\
 (¬(HT.sIx xs.length 0 lo=0/\HT.sIx xs.length xs.length hi=xs.length)->∀p,H p=none->Q (.ref p) (upd H p (.tup (bH8 xs lo hi))))
theorem dR5 (K:Frag)(h:X.K=K:=by rfl):SlR X (dU2 K):=by
 subst h;intro R s σ H x v P vu lo hi B Q I N m J M h;obtain⟨a,xs,e,U,D,F⟩:=h;by_cases z:HT.sIx xs.length 0 lo=0/\HT.sIx xs.length xs.length hi=xs.length
 .subst e;cases N;obtain⟨its,r,Y,hz⟩:=I.tuple U;have w:its.toArray.size=xs.length:=by rw[Ab2];exact r.length.symm
  refine⟨"tuple",_,Bw.lookup,Y.typeIs,?_⟩;exact aC2 Y m J M (by rw[w];exact z) ⟨.ref a,H,I,rfl,D z⟩
 .exact dG8 R s σ H x v P vu lo hi B Q I N m J M ⟨a,xs,e,U,z,F z⟩
theorem cN6 (K:Frag)(h:X.K=K:=by rfl):OpR X (binaryOp .Add) (cR0 K):=h▸dA3
end
section
variable {K:Frag}{ρ:List Sl}{m:Bool}{t ta tb:TE}{d:PyData}{ds es:List PyData}
theorem bC7 (h:G5 ds=true):imm (.tuple ds)=true:=by simp[imm,h]
theorem dC2 {tl th:TO}{lo hi:Option Int}(M:E K false ta ρ (.tuple ds))(R:O K tl ρ lo)(N:O K th ρ hi)(Y:G5 ds=true):E K m (tSl (dU2 K) ta tl th) ρ (.tuple (aN6 ds lo hi)):=
 E.bor (E.imm (m:=false) (λS B σ H o I Q q=>M S B σ H o I _ λx H1 s D=>R S B σ H1 o (I.grow s) _ λJ U=>N S B σ J o ((I.grow s).grow U) _ λP F=>by
  cases D with
  | @tup a xs _ sa ra=>
  have w:=L2.Same.tr U F
  have z:=ra.length
  refine⟨a,xs,rfl,D3 w sa,λX=>q _ _ (L2.Same.tr s w) ?_,λ_ p hp=>q _ _ (L2.Same.tr s (L2.Same.tr w (D1 hp))) (.tup (SqT.of B3) (((ra.mono w).cut lo hi).mono (D1 hp)))⟩
  have e:aN6 ds lo hi=ds:=by
   unfold aN6;rw[<- z,X.1,X.2,z]
   simp
  rw[e];exact .tup (D3 w sa) (ra.mono w)) (bC7 (T3 lo hi Y)))
theorem dN6 (X:E K false ta ρ (.tuple ds))(U:E K false tb ρ (.tuple es))(hi:G5 ds=true)(s:G5 es=true)(M:ds≠[])(J:ds.length+es.length<=sizeLine:=by first | decide | (unfold PySem.sizeLine;simp;done)):E K m (tOp (cR0 K) ta tb) ρ (.tuple (ds++es)):=
 E.bor (E.imm (m:=false) (λS B σ H o I Q q=>X S B σ H o I _ λx H1 Y N=>U S B σ H1 o (I.grow Y) _ λy D w R=>by
  cases N with
  | @tup a xs _ sa ra=>
  cases R with
  | @tup b ys _ sb rb=>
  have e:=ra.mono w
  refine⟨a,b,xs,ys,rfl,rfl,D3 w sa,sb,λz=>M (by cases z;cases ra;rfl),by rw[ra.length,rb.length];exact J,λz=>q _ _ (L2.Same.tr Y w) ?_,λ_ p hp=>q _ _ (L2.Same.tr Y (L2.Same.tr w (D1 hp))) (.tup (SqT.of B3) ((e.append rb).mono (D1 hp)))⟩
  cases z
  cases rb
  rw[Cd];exact .tup (D3 w sa) e) (bC7 (by rw[u8,hi,s];rfl)))
theorem bW1 (r:Rep K H p (tI l)):∃a,p=.ref a/\SqT K H a (l.map V.int):=by
 cases r with
 | @tup a xs _ s r=>exact⟨a,rfl,by rw[<- r.ints];exact s⟩
theorem aS5 (Y:E K false ta ρ (tI l))(X:E K false tb ρ (.int k))(U:k∈l) :
  E K m (tBM K "tuple" (λx xs H Q=>∃(p:Addr) (l:List Int) (k:Int),x=.ref p/\xs=[.int k]/\SqT K H p (l.map V.int)/\k∈l/\Q (.int (l.idxOf k)) H) ta (G1 tb V7)) ρ (.int (l.idxOf k)):=E.bor (E.imm (m:=false) λS B σ H o I Q q=>Y S B σ H o I _ λv H1 e r=>by
 obtain⟨p,rfl,s⟩:=bW1 r;refine⟨.inr (.inl ⟨rfl,_,s⟩),?_⟩;refine X S B σ H1 o (I.grow e) _ λu z w J=>?_
 cases J
 exact⟨p,l,k,rfl,rfl,D3 w s,U,q _ z (L2.Same.tr e w) (.int _)⟩)
theorem cG7 (hi:ρ[i]? = some (.own ds))(h:EF K t ρ es)(Y:ds.length+es.length<=sizeLine)(X:R.nx (ρ.set i (.own (ds++es))))(nb:M9 ρ=true:=by rfl) :
  W K (bC8 (tBM K "list" cD3 (D7 i) (G1 t V7))) ρ R:=λS B D σ H o I s=>by
 obtain⟨p,hp,a,xs,b,c⟩:=I.own i ds hi;refine⟨_,a,.inl ⟨rfl,xs,SqL.of b⟩,?_⟩;refine h S B σ H o I _ λq U J w n e r=>?_
 refine⟨_,_,xs,U,rfl,rfl,w _ _ b,e,by rw[c.length,r.length];exact Y,?_⟩
 exact s.nx _ σ _ _ ((I.grow w).upd hi hp ((c.mono (G0 w)).append (r.mono (D8 (L2.Same.rf _) λb z _=>.inl z))) (J0 nb)) X
end
end LV
namespace L2
open PySem PySem.Spec PyProof.Rows
section
variable {X:Cx}{aA:Eg}{σ:St}{H:Hp}{s:Shared}{h':Heap}
theorem Inv.turnedL {t':Nat}{fp:List Addr}(I:Inv X aA σ H s)(k:∀b o,b∉fp->s.heap.get? b=some o->h'.get? b=some o)(U:∀b∈fp,aX2 X aA H b):Inv X aA σ H {s with heap:=h',toks:=t'}:=by
 have Y:∀b u,H b=some u->b∉fp:=λb u e z=>by rw[(U b z).1]at e;cases e
 refine I.step (g':=s.gens) (d':=s.drawn) (ch:=fp) (λb Q=>?_) (λb o _ _ w e _=>k b o w e) (λb o _ _ w e _=>⟨o.slots,k b o w e⟩) (λ_ _ _ _ n=>n)
  (λb o w e=>⟨o,k b o w e⟩) (λ_ _ e=>e) (λ_ _ _ e=>e) (λb ps e=>⟨#[],by rw[e];simp⟩) (λm D=>?_) (λb u e=>?_) I.bare
 .obtain⟨_,f1,_,f3,N,R⟩:=U b Q;exact⟨f3,f1,N,R⟩
 .obtain⟨o,M,J,ho,r⟩:=D;exact⟨o,M,J,k _ o (λz=>(U _ z).2.1 rfl) ho,r⟩
 .refine(I.hok b u e).stay (λc v w q=>k c v ?_ q) (λ_ q=>q) λ_ _ q=>q
  rcases w with z | z
  .rw[z];exact Y b u e
  .exact Y c _ z
theorem Inv.turnedLaid {t':Nat}{fp:List Addr}{T:Addr}{ob:HO}(I:Inv X aA σ H s)(k:∀b o,b∉fp->s.heap.get? b=some o->h'.get? b=some o)(N:∀b∈fp,aX2 X aA H b)(Q:s.heap.objs.size<=T)
  (R:ObjOk X.prog X.w (upd H T ob) h' T ob):Inv X aA σ (upd H T ob) {s with heap:=h',toks:=t'}:=by
 have J:∀b u,H b=some u->b∉fp:=λb u e z=>by rw[(N b z).1]at e;cases e
 have D:H T=none:=I.hok.fresh Q
 have nT:∀b o,s.heap.get? b=some o->b≠T:=λb o e z=>by have h1:b<s.heap.objs.size:=Ab3 e;rw[z]at h1;exact absurd (Ab8 h1 Q) (Ad9 _)
 have U:∀b u,H b=some u->b≠T:=λb u e z=>by rw[z,D]at e;cases e
 refine I.step (g':=s.gens) (d':=s.drawn) (ch:=fp) (λb M=>?_) (λb o _ _ Y e _=>k b o Y e) (λb o _ _ Y e _=>⟨o.slots,k b o Y e⟩) (λb o _ e n=>by rw[B0 (nT b o e)];exact n)
  (λb o Y e=>⟨o,k b o Y e⟩) (λb _ e=>by rw[B0 (U b _ e)];exact e) (λb _ _ e=>by rw[B0 (U b _ e)];exact e) (λb ps e=>⟨#[],by rw[B0 (U b _ e),e];simp⟩) (λm hm=>?_) (λb u e=>?_) I.bare
 .obtain⟨_,f1,_,f3,P,f5⟩:=N b M;exact⟨f3,f1,P,f5⟩
 .obtain⟨o,B,F,ho,r⟩:=hm;exact⟨o,B,F,k _ o (λz=>(N _ z).2.1 rfl) ho,r⟩
 .by_cases M:b=T
  .subst M;rw[B3]at e;cases e;exact R
  rw[B0 M]at e;refine(I.hok b u e).stay (λc v Y q=>k c v ?_ q) (λc q=>by rw[B0 (U c _ q)];exact q) λc _ q=>by rw[B0 (U c _ q)];exact q
  rcases Y with z | z
  .rw[z];exact J b u e
  .exact J c _ z
end
end L2
namespace LV
open PySem PySem.Spec PyProof.Rows L2
section
variable {K:Frag}{ρ:List Sl}{m:Bool}{t ta tb:TE}{d d':PyData}{ds es:List PyData}
def enD (ds:List PyData):List PyData:=ds.mapIdx λi d=>.tuple [.int (i:Int),d]
theorem bY2:(enD ds).length=ds.length:=by simp[enD]
theorem bI9 {i:Nat}{d:PyData}(h:(enD ds)[i]? = some d):∃y,ds[i]? = some y/\d=.tuple [.int (i:Int),y]:=by
 unfold enD at h;rw[List.getElem?_mapIdx]at h;obtain⟨y,h1,e⟩:=Ap.mp h;exact⟨y,h1,e.symm⟩
end
end LV
namespace L2
open PySem PySem.Spec PyProof.Rows
section
variable {prog:Program}{w:World}{A:Around}{E:Ef}{s:Shared}
theorem bB8 (e:s.heap.get? a=some o)(d:o.data=.seq items n)(h:Q (some items) s):wpAny M A (seqItems? (.ref a)) Q E s:=by
 unfold seqItems?;refine Aa (wpAny_load e ?_);rw[d];exact Ab h
theorem Y2 (st:s.heap.IsTupleIter it t i)(J:s.heap.IsTuple t items)(M:items[i]? = some x)
  (h:∀h':Heap,h'.IsTupleIter it t (i+1)->Heap.SameBut it s.heap h'->Q x {s with heap:=h'}):wpAny (model prog w) A (Builtin.SmallTypes.nextOf (.ref it)) Q E s:=by
 unfold Builtin.SmallTypes.nextOf;refine Aa (Bj st.typeIs slot_tupleiter_next (Bf slot_tupleiter_next st.typeIs entry_tupleiter_next ?_ (args_tupleiter_next _)));obtain⟨o,e,c,d⟩:=id st;obtain⟨F,U,R,n,Y⟩:=J;have X:slotArgs "__next__" 0 {pos:=[.ref it]}=pure (.ref it,[]):=rfl;refine Aa (m:=slotArgs "__next__" 0 {pos:=[.ref it]}) ?_;rw[X];refine Ab ?_;refine Aa (m:=field (.ref it) 0) (wpAny_field e d rfl ?_);refine Aa (m:=field (.ref it) 1) (wpAny_field e d rfl ?_);refine Aa (m:=seqItems? (.ref t)) (bB8 U Y ?_);show wpAny _ _ (match items[(i:Int).toNat]? with | some x=>_ | none=>_) _ _ _
 rw[Ac8,M];refine Aa (m:=setField (.ref it) 1 (rawInt ((i:Int)+1))) (wpAny_setField e d (by simp) ?_)
 obtain⟨oc,D,z,N⟩:=o;dsimp only at c d;subst c;subst d;exact Ab ⟨x,rfl,Ab (h _ ⟨_,Bq _ e rfl,rfl,rfl⟩ (Cp _ _ _))⟩
theorem dQ9 (Y:A.handled=none)(h:∀(h':Heap) (e:Addr),(∀b o,s.heap.get? b=some o->h'.get? b=some o)->(∃o,h'.get? e=some o/\o.cls=.type "StopIteration")->E (.ref e) {s with heap:=h'}) :
  wpAny M A (Builtin.SmallTypes.stopIteration (α := α)) Q E s:=by
 unfold Builtin.SmallTypes.stopIteration newExc;refine Aa ?_;refine Aa (wpAny_newTuple ?_ (by show 0<=sizeLine;exact Ci _))
 have m:firstArgMember (.type "StopIteration") []=pure .none:=by
  unfold firstArgMember;show(pure _ >>= λz=>pure (if z=true then _ else _))=_
  cases (Manifest.find? "StopIteration").elim false λt=>t.mro.contains "StopIteration" || t.mro.contains "SystemExit" <;> rfl
 rw[m];refine Aa (Ab ?_);refine Be ?_ (by show(6:Nat)<=sizeLine+2;decide)
 refine wpAny_raiseNew_none Y (h _ _ (λb o q=>Aa6 _ (Aa6 _ q)) ⟨_,Ac3 _ rfl,rfl⟩)
theorem aL6 (M:A.handled=none)(st:s.heap.IsTupleIter it t i)(R:s.heap.IsTuple t items)(D:items[i]? = none)
  (h:∀(h':Heap) (e:Addr),Heap.ExtBut it s.heap h'->(∃o,h'.get? e=some o/\o.cls=.type "StopIteration")->E (.ref e) {s with heap:=h'}):wpAny (model prog w) A (Builtin.SmallTypes.nextOf (.ref it)) Q E s:=by
 unfold Builtin.SmallTypes.nextOf;refine Aa (Bj st.typeIs slot_tupleiter_next (Bf slot_tupleiter_next st.typeIs entry_tupleiter_next ?_ (args_tupleiter_next _)));obtain⟨o,e,c,d⟩:=id st;obtain⟨B,X,F,n,z⟩:=R;have Y:slotArgs "__next__" 0 {pos:=[.ref it]}=pure (.ref it,[]):=rfl;refine Aa (m:=slotArgs "__next__" 0 {pos:=[.ref it]}) ?_;rw[Y];refine Ab ?_;refine Aa (m:=field (.ref it) 0) (wpAny_field e d rfl ?_);refine Aa (m:=field (.ref it) 1) (wpAny_field e d rfl ?_);refine Aa (m:=seqItems? (.ref t)) (bB8 X z ?_);show wpAny _ _ (match items[(i:Int).toNat]? with | some x=>_ | none=>_) _ _ _
 rw[Ac8,D];refine Aa (wpAny_rule ?_);refine Aa (m:=setField (.ref it) 0 .none) (wpAny_setField e d (by simp) ?_)
 exact dQ9 M λh' U kp N=>h h' U (λb o J q=>kp b o (by rw[Heap.get?_update_ne _ _ _ _ J];exact q)) N
theorem aM7 (t:Addr)(items:Array Value):Meets (Builtin.«enumerate.__new__» {pos:=[.type "enumerate",.ref t]}) λx R s=>
  s.heap.IsTuple t items/\R (.ok (.ret (.ref (s.heap.push {cls:=.type "tuple_iterator",data:=.fields #[.ref t,.int 0 0]}).objs.size)))
   {s with heap:=(s.heap.push {cls:=.type "tuple_iterator",data:=.fields #[.ref t,.int 0 0]}).push {cls:=.type "enumerate",data:=.fields #[.none,.bool false,.ref s.heap.objs.size,rawInt 0,.none,.none]}}:=by
 intro prog w A R s ⟨Q,hr⟩;unfold Builtin.«enumerate.__new__»;have J:Builtin.SmallTypes.newClass "enumerate" {pos:=[.type "enumerate",.ref t]}=pure (.type "enumerate",[.ref t]):=by
  unfold Builtin.SmallTypes.newClass;show(pure true >>= _)=_;rw[pure_bind];show(isSubtype (.type "enumerate") (.type "enumerate") >>= _)=_;rw[F.called_enumerate.sub];rfl
 rw[J];refine Aa (Ab ?_);dsimp only;rw[Ae (by decide)]
 refine Aa ?_;unfold Builtin.SmallTypes.calledThroughType;refine Aa (wpAny_stack λst _ _ _=>Ab ?_)
 have fin:wpAny (model prog w) A.in1 (do
   let it <- pyIter (.ref t)
   let r <- Builtin.SmallTypes.newRecord (.type "enumerate") (Builtin.SmallTypes.ownedTupleFields++[it,rawInt 0,.none,.none])
   ret r) (λfin z=>match fin with | .done f=>R (.ok f) z | .again X=>X.quiet=true/\codeAny (model prog w) A X R z) (λe z=>R (.error e) z) s:=by
  refine Aa (wpAny_pyIter_tuple Q ?_);refine Aa (m:=Builtin.SmallTypes.newRecord _ _) ?_;unfold Builtin.SmallTypes.newRecord;exact Be (Ab hr) (by show(6:Nat)<=sizeLine+2;decide)
 have U:∀(Y:Bool) (C N:Sem PySem.Fin),wpAny (model prog w) A.in1 C (λfin z=>match fin with | .done f=>R (.ok f) z | .again X=>X.quiet=true/\codeAny (model prog w) A X R z) (λe z=>R (.error e) z) s->wpAny (model prog w) A.in1 N (λfin z=>match fin with | .done f=>R (.ok f) z | .again X=>X.quiet=true/\codeAny (model prog w) A X R z) (λe z=>R (.error e) z) s->wpAny (model prog w) A.in1 (if Y=true then C else N) (λfin z=>match fin with | .done f=>R (.ok f) z | .again X=>X.quiet=true/\codeAny (model prog w) A X R z) (λe z=>R (.error e) z) s:=λY C N h1 M=>by
  cases Y
  .rw[Ac (by decide)];exact M
  .rw[Ae rfl];exact h1
 refine U _ _ _ ?_ ?_
 .exact Aa (m:=pure (Value.ref t,none)) (Ab fin)
 .exact Aa (m:=pure (Value.ref t,none)) (Ab fin)
theorem aA4 (m:s.heap.IsTuple t items)
  (h:∀h':Heap,IsEnum h' (s.heap.objs.size+1) s.heap.objs.size 0 .none->h'.IsTupleIter s.heap.objs.size t 0->(∀b o,s.heap.get? b=some o->h'.get? b=some o)->Q (.ref (s.heap.objs.size+1)) {s with heap:=h'}) :
  wpAny (model prog w) A (call (.type "enumerate") [.ref t]) Q E s:=by
 have e:(s.heap.push {cls:=.type "tuple_iterator",data:=.fields #[.ref t,.int 0 0]}).objs.size=s.heap.objs.size+1:=by simp[Heap.push]
 refine callType_new F.called_enumerate (by decide) (F.typeCall_enumerate_1 _) (F.newCall_enumerate_1 _) (λY=>F.args_object_init_2 _ _) F.entry_enumerate_new (aM7 t items) ⟨m,?_⟩
 show _/\_
 rw[e];have z:((s.heap.push {cls:=.type "tuple_iterator",data:=.fields #[.ref t,.int 0 0]}).push {cls:=.type "enumerate",data:=.fields #[.none,.bool false,.ref s.heap.objs.size,rawInt 0,.none,.none]}).get? (s.heap.objs.size+1)=some {cls:=.type "enumerate",data:=.fields #[.none,.bool false,.ref s.heap.objs.size,rawInt 0,.none,.none]}:=by
  have:=Ac3 (h:=s.heap.push {cls:=.type "tuple_iterator",data:=.fields #[.ref t,.int 0 0]}) (o:={cls:=.type "enumerate",data:=.fields #[.none,.bool false,.ref s.heap.objs.size,rawInt 0,.none,.none]}) rfl
  rw[e]at this;exact this
 exact⟨⟨_,z,rfl⟩,h _ z ⟨_,Aa6 _ (Ac3 _ rfl),rfl,rfl⟩ λb o q=>Aa6 _ (Aa6 _ q)⟩
end
theorem tuple_inj (I:Inv X aA σ H s)(h:SqT X.K H a xs)(h':SqT X.K H a ys):xs=ys:=by
 obtain⟨its,r,⟨o,e,_,n,d⟩,_⟩:=I.tuple h;obtain⟨w,Y,⟨U,e',_,n',z⟩,_⟩:=I.tuple h';rw[e]at e';cases e';rw[d]at z
 injection z with m _
 have:its=w:=by simpa using congrArg Array.toList m
 subst this;exact r.inj Y
end L2
namespace LV
open PySem PySem.Spec PyProof.Rows L2
section
variable {K:Frag}{ρ ρ':List Sl}{m:Bool}{t ta tb:TE}{d d':PyData}{ds es:List PyData}
def spX (K:Frag)(pre:List PyData->(PyData->Prop)->Prop):Sp:=λvs H Q _=>∃(ds:List PyData) (S:Addr->Prop) (post:PyData->Prop),(∀b,S b->∃u:HM,H b=some u.ho)/\Reps K (hid S H) vs ds/\pre ds post /\
 ∀d v H',post d->Same H H'->Rep K (hid S H') v d->Q v H'
theorem bR2 {t:TS}{N:List Str}{vs:List V}{S:Addr->Prop}{H:Hp}{Q:VK}{post:PyData->Prop}(X:∀b,S b->∃u:HM,H b=some u.ho)(r:Reps K (hid S H) vs ds)(w:W K t (sl0 N.length ds) {nx:=λ_=>post .none,rt:=post})
  (k:∀d v H',post d->Same H H'->Rep K (hid S H') v d->Q v H'):t {nx:=λ_ H'=>Q .non H',rt:=Q} (L2.Y3 N vs) H:=
 w S H _ _ H _ (env0 X r) ⟨λρ' M H' J Y z=>k _ _ H' z Y.base .non,λv e H' s U z=>k e v H' z s U,λ_ _ _ _ _ _ _ _ z=>z.elim,λ_ _ _ _ _ z=>z.elim,λ_ _ _ _ _ z=>z.elim⟩
theorem aL2 {i:Nat}{R:AE}{pre:List PyData->(PyData->Prop)->Prop}{post:PyData->Prop}{t:TA}{X:XK}(U:A K true t ρ ds)(hp:pre ds post)(J:∀d,post d->R.nx (ρ.set i (.val d))):W K (aL7 (aW8 (spX K pre) [] X t) (G7 i)) ρ R:=λS B D σ H o I s=>
 U S B σ H o I _ λvs H1 w rs=>⟨ds,C9 ρ o S,post,(I.grow w).lists,by rw[Cd];exact rs,hp,λd v e z M r=>(B7 (K:=K) (m:=true) (i:=i) (ρ := ρ) (d:=d)).2 S B σ e o (I.grow (L2.Same.tr w M)) v r _ λN Y=>s.nx _ N e o Y (J d z)⟩
theorem dL6 (h:∀ds d,pre ds d->ds.length=n):∀vs H Q E,spX K pre vs H Q E->vs.length=n:=λvs H Q E ⟨ds,S,d,_,r,p,_⟩=>by
 have e:=r.length
 rw[e];exact h ds d p
theorem dS8 {K:Frag}{ρ:List Sl}(w:List Sl->Prop){c:TT}{t u:TS}{b:Bool}{R:AE}(h:LV.T K c ρ b)(h1:b=true->W K t ρ {R with nx:=w})(Y:b=false->W K u ρ {R with nx:=w})(s:∀ρ',w ρ'->R.nx ρ'):W K (cY2 c t u) ρ R:=
 X4 h (λe=>(h1 e).weak s (λ_ z=>z) (λ_ z=>z) (λ_ z=>z) (λ_ z=>z)) (λe=>(Y e).weak s (λ_ z=>z) (λ_ z=>z) (λ_ z=>z) (λ_ z=>z))
end
end LV
namespace L2
open PySem PySem.Spec PyProof.Rows
def Sqh (κ:Bool)(h:Heap)(l:Addr)(xs:Array Value):Prop:=match κ with | true=>h.IsList l xs | false=>h.IsTuple l xs
def Iqh (κ:Bool)(h:Heap)(i l:Addr)(k:Nat):Prop:=match κ with | true=>h.IsListIter i l k | false=>h.IsTupleIter i l k
abbrev qn (κ:Bool):String:=match κ with | true => "list_iterator" | false => "tuple_iterator"
def SqK (κ:Bool)(K:Frag)(H:Hp)(a:Addr)(xs:List V):Prop:=match κ with | true=>SqL K H a xs | false=>SqT K H a xs
section
variable {κ:Bool}{h h':Heap}{l i:Addr}{k:Nat}{xs:Array Value}
theorem Sqh.same (H:Sqh κ h l xs)(k:∀o,h.get? l=some o->h'.get? l=some o):Sqh κ h' l xs:=by cases κ <;> (obtain⟨o,e,r⟩:=H;exact⟨o,k o e,r⟩)
theorem Sqh.lt (H:Sqh κ h l xs):l<h.objs.size:=by cases κ <;> (obtain⟨o,e,r⟩:=H;exact Ab3 e)
theorem Iqh.at (x:Iqh κ h i l k)(e:∀o,h.get? i=some o->h'.get? i=some o):Iqh κ h' i l k:=by cases κ <;> (obtain⟨o,ho,r⟩:=x;exact⟨o,e _ ho,r⟩)
theorem Iqh.ob (x:Iqh κ h i l k):∃o d,h.get? i=some o/\o.data=.fields d:=by cases κ <;> (obtain⟨o,ho,_,r⟩:=x;exact⟨o,_,ho,r⟩)
theorem Inv.seqq {X:Cx}{aA:Eg}{σ:St}{H:Hp}{s:Shared}{a:Addr}{xs:List V}(I:Inv X aA σ H s)(h:SqK κ X.K H a xs):∃its:List Value,Vals xs its/\Sqh κ s.heap a its.toArray:=by
 cases κ
 .obtain⟨its,r,p,_⟩:=I.tuple h;exact⟨its,r,p⟩
 .obtain⟨its,r,p,_⟩:=I.list h;exact⟨its,r,p.isList⟩
theorem bQ0 {X:Cx}{aA:Eg}{σ:St}{H:Hp}{s:Shared}{a:Addr}{xs ys:List V}(I:Inv X aA σ H s)(h:SqK κ X.K H a xs)(h':SqK κ X.K H a ys):xs=ys:=by
 cases κ
 .exact tuple_inj I h h'
 .exact I.list_inj h h'
end
section
variable {prog:Program}{w:World}{A:Around}{E:Ef}{s:Shared}{κ:Bool}
theorem aV6 {it t:Addr}{i:Nat}{items:Array Value}{x:Value}{Q:Ef}(st:Iqh κ s.heap it t i)(e:Sqh κ s.heap t items)(z:items[i]? = some x)(h:∀h':Heap,Iqh κ h' it t (i+1)->Heap.SameBut it s.heap h'->Q x {s with heap:=h'}):wpAny (model prog w) A (Builtin.SmallTypes.nextOf (.ref it)) Q E s:=by
 cases κ
 .exact Y2 st e z h
 .exact wpAny_nextOf_list_item st e z h
theorem aM9 {it t:Addr}{i:Nat}{items:Array Value}{Q:Ef}(z:A.handled=none)(st:Iqh κ s.heap it t i)(m:Sqh κ s.heap t items)(Y:items[i]? = none)(h:∀(h':Heap) (e:Addr),Heap.ExtBut it s.heap h'->(∃o,h'.get? e=some o/\o.cls=.type "StopIteration")->E (.ref e) {s with heap:=h'}):wpAny (model prog w) A (Builtin.SmallTypes.nextOf (.ref it)) Q E s:=by
 cases κ
 .exact aL6 z st m Y h
 .exact wpAny_nextOf_list_end z st m Y h
theorem cW5 {t:Addr}{items:Array Value}{Q:Ef}(z:Sqh κ s.heap t items)(e:Q (.ref s.heap.objs.size) {s with heap:=s.heap.push {cls:=.type (qn κ),data:=.fields #[.ref t,.int 0 0]}}):wpAny (model prog w) A (pyIter (.ref t)) Q E s:=by
 cases κ
 .exact wpAny_pyIter_tuple z e
 .exact wpAny_pyIter_list z e
structure ZAp (z TI TO i1 i2 l1 l2:Addr):Prop where
 nd:[z,TI,TO,i1,i2].Nodup
 m1:l1∉[z,TO,i1,i2]
 m2:l2∉[z,TO,i1,i2]
theorem aT7 {l b:Addr}{h h':Heap}{xs:Array Value}(H:h.IsTuple l xs)(k:∀o,h.get? l=some o->h'.get? l=some o):h'.IsTuple l xs:=by
 obtain⟨o,e,r⟩:=H;exact⟨o,k o e,r⟩
theorem cF0 {z TI TO i1 i2 l1 l2:Addr}{k:Nat}{xs ys:Array Value}{x y a b:Value}{Q:Ef}(D:ZAp z TI TO i1 i2 l1 l2)(J:IsZip s.heap z TI TO .none)(hTI:IsPair s.heap TI (.ref i1) (.ref i2))(hTO:IsPair s.heap TO a b)
  (h1:Iqh κ s.heap i1 l1 k) (h2:s.heap.IsTupleIter i2 l2 k) (t1:Sqh κ s.heap l1 xs) (t2:s.heap.IsTuple l2 ys) (hx:xs[k]? = some x) (hy:ys[k]? = some y)
  (hQ:∀h',IsZip h' z TI TO (rawInt s.heap.objs.size)->IsPair h' TO x y->Iqh κ h' i1 l1 (k+1)->h'.IsTupleIter i2 l2 (k+1)->IsPair h' s.heap.objs.size x y->(∀c o,c∉[z,TO,i1,i2]->s.heap.get? c=some o->h'.get? c=some o)->Q (.ref s.heap.objs.size) {s with heap:=h'}) :
  wpAny (model prog w) A (Builtin.«zip.__next__» ⟨[.ref z],[]⟩) (λfin s'=>∃v,fin=.done (.ret v)/\Q v s') E s:=by
 obtain⟨nd,m1,m2⟩:=D;simp only[Aa5,Aa1,Ac2,or_false,not_or,not_false_eq_true,List.nodup_nil,and_true]at nd m1 m2;obtain⟨⟨n1,P,n3,n4⟩,⟨n5,n6,n7⟩,⟨n8,n9⟩,M⟩:=nd;obtain⟨p1,p2,p3,p4⟩:=m1;obtain⟨q1,q2,q3,q4⟩:=m2;show wpAny _ _ (field (.ref z) 2 >>= _) _ _ _;refine Aa (wpAny_field J rfl (x:=.bool false) rfl ?_);show wpAny _ _ (field (.ref z) 3 >>= _) _ _ _;refine Aa (wpAny_field J rfl (x:=.ref TI) rfl (Aa (wpAny_seqItems hTI rfl ?_)));show wpAny _ _ (Builtin.SmallTypes.ownedTupleIsFree (.ref z) >>= _) _ _ _;refine Aa ?_;unfold Builtin.SmallTypes.ownedTupleIsFree;refine Aa (wpAny_field J rfl (x:=.none) rfl (Ab ?_));simp only[if_true];refine Aa (wpAny_rule (Aa (wpAny_field J rfl (x:=.ref TO) rfl (Aa (wpAny_setField_rec J (by simp) λg1 z1 s1=>Aa ?_)))))
 replace z1:IsZip g1 z TI TO .ellipsis:=z1;simp only[List.zipIdx_cons,List.zipIdx_nil,List.forIn_cons,List.forIn_nil]
 refine Aa (Aa (wpAny_onRaise ?_));show wpAny _ _ (Builtin.SmallTypes.nextOf (.ref i1) >>= _) _ _ _;have B:=λc (Y:c≠z) o (e:s.heap.get? c=some o)=>s1.extBut _ _ Y e
 refine Aa (aV6 (h1.at (B i1 (Ne.symm n3))) (t1.same (B l1 p1)) hx λg2 i1₂ s2=>Ab ?_)
 have o2:IsPair g2 TO a b:=s2.extBut _ _ n8 (B TO (Ne.symm P) _ hTO)
 refine Aa (wpAny_seqItems o2 rfl (Aa (wpAny_updateSeq_pair o2 λg3 o3 s3=>Aa (wpAny_letGo (Ab ?_)))));replace o3:IsPair g3 TO x b:=o3
 refine Aa (Aa (wpAny_onRaise ?_));show wpAny _ _ (Builtin.SmallTypes.nextOf (.ref i2) >>= _) _ _ _;have k3:=λc (Y:c≠z) (hc2:c≠i1) (hc3:c≠TO) o (e:s.heap.get? c=some o)=>s3.extBut _ _ hc3 (s2.extBut _ _ hc2 (B c Y o e))
 refine Aa (Y2 (h2.at (k3 i2 (Ne.symm n4) (Ne.symm M) (Ne.symm n9))) (aT7 (b:=z) t2 (k3 l2 q1 q3 q2)) hy λg4 i2₄ N=>Ab ?_)
 have o4:IsPair g4 TO x b:=N.extBut _ _ n9 o3
 refine Aa (wpAny_seqItems o4 rfl (Aa (wpAny_updateSeq_pair o4 λm o5 R=>Aa (wpAny_letGo (Ab (Ab ?_))))));replace o5:IsPair m TO x y:=o5
 refine Aa (wpAny_seqItems o5 rfl (Aa (wpAny_newTuple ?_)));have sz:m.objs.size=s.heap.objs.size:=by rw[R.1,N.1,s3.1,s2.1,s1.1]
 have k5:=λc (Y:c≠z) (hc2:c≠i1) (hc3:c≠TO) (hc4:c≠i2) o (e:s.heap.get? c=some o)=>R.extBut _ _ hc3 (N.extBut _ _ hc4 (k3 c Y hc2 hc3 o e))
 have z5:IsZip m z TI TO .ellipsis:=R.extBut _ _ P (N.extBut _ _ n4 (s3.extBut _ _ P (s2.extBut _ _ n3 z1)))
 have i1₅:Iqh κ m i1 l1 (k+1):=i1₂.at λo e=>R.extBut _ _ (Ne.symm n8) (N.extBut _ _ M (s3.extBut _ _ (Ne.symm n8) e))
 have i2₅:m.IsTupleIter i2 l2 (k+1):=i2₄.at λo e=>R.extBut _ _ (Ne.symm n9) e
 show wpAny _ _ (Builtin.SmallTypes.ownedTupleHandOut (.ref z) (.ref m.objs.size) >>= _) _ _ _
 refine Aa ?_;unfold Builtin.SmallTypes.ownedTupleHandOut;have z6:IsZip (m.push {cls:=.type "tuple",data:=.seq #[x,y]}) z TI TO .ellipsis:=Aa6 _ z5;refine Aa (wpAny_setField_rec z6 (by simp) λg7 z7 s7=>?_);replace z7:IsZip g7 z TI TO (rawInt m.objs.size):=z7
 refine wpAny_setField_rec z7 (by simp) λU z8 s8=>?_;replace z8:IsZip U z TI TO (rawInt m.objs.size):=z8
 have up:∀c o,c≠z->(m.push {cls:=.type "tuple",data:=.seq #[x,y]}).get? c=some o->U.get? c=some o:=λc o F e=>s8.extBut _ _ F (s7.extBut _ _ F e)
 have X:∀c o,c≠z->m.get? c=some o->U.get? c=some o:=λc o F e=>up c o F (Aa6 _ e)
 have T8:IsPair U m.objs.size x y:=up _ _ (Nat.ne_of_gt (Ab3 z5)) (Ac3 _ rfl)
 rw[sz]at z8 T8;refine Ab ⟨_,rfl,?_⟩;show Q (.ref m.objs.size) _;rw[sz];refine hQ U z8 (X _ _ (Ne.symm P) o5) (i1₅.at λo e=>X _ o (Ne.symm n3) e) (i2₅.at λo e=>X _ o (Ne.symm n4) e) T8 λc o Y e=>?_
 simp only[Aa1,Ac2,or_false,not_or]at Y;exact X c o Y.1 (k5 c Y.1 Y.2.2.1 Y.2.1 Y.2.2.2 o e)
theorem cQ7 {z TI TO i1 i2 l1 l2:Addr}{k:Nat}{xs:Array Value}{a b:Value}{Q:PySem.Fin->Shared->Prop}(hh:A.handled=none)(D:ZAp z TI TO i1 i2 l1 l2)(U:IsZip s.heap z TI TO .none)(J:IsPair s.heap TI (.ref i1) (.ref i2))(hTO:IsPair s.heap TO a b)
  (h1:Iqh κ s.heap i1 l1 k) (t1:Sqh κ s.heap l1 xs) (hx:xs[k]? = none)
  (hE:∀h' e,(∀c o,c∉[z,TO,i1,i2]->s.heap.get? c=some o->h'.get? c=some o)->(∃o,h'.get? e=some o/\o.cls=.type "StopIteration")->E (.ref e) {s with heap:=h'}) :
  wpAny (model prog w) A (Builtin.«zip.__next__» ⟨[.ref z],[]⟩) Q E s:=by
 obtain⟨B,R,m2⟩:=D;simp only[Aa5,Aa1,Ac2,or_false,not_or,not_false_eq_true,List.nodup_nil,and_true]at B R m2;obtain⟨⟨n1,n2,F,n4⟩,⟨n5,n6,n7⟩,⟨n8,n9⟩,n10⟩:=B;obtain⟨p1,p2,p3,p4⟩:=R;show wpAny _ _ (field (.ref z) 2 >>= _) _ _ _;refine Aa (wpAny_field U rfl (x:=.bool false) rfl ?_);show wpAny _ _ (field (.ref z) 3 >>= _) _ _ _;refine Aa (wpAny_field U rfl (x:=.ref TI) rfl (Aa (wpAny_seqItems J rfl ?_)));show wpAny _ _ (Builtin.SmallTypes.ownedTupleIsFree (.ref z) >>= _) _ _ _;refine Aa ?_;unfold Builtin.SmallTypes.ownedTupleIsFree;refine Aa (wpAny_field U rfl (x:=.none) rfl (Ab ?_));simp only[if_true];refine Aa (wpAny_rule (Aa (wpAny_field U rfl (x:=.ref TO) rfl (Aa (wpAny_setField_rec U (by simp) λg1 N s1=>Aa ?_)))))
 replace N:IsZip g1 z TI TO .ellipsis:=N;simp only[List.zipIdx_cons,List.zipIdx_nil,List.forIn_cons,List.forIn_nil]
 refine Aa (Aa (wpAny_onRaise ?_));show wpAny _ _ (Builtin.SmallTypes.nextOf (.ref i1) >>= _) _ _ _;have M:=λc (Y:c≠z) o (e:s.heap.get? c=some o)=>s1.extBut _ _ Y e
 refine Aa (aM9 hh (h1.at (M i1 (Ne.symm F))) (t1.same (M l1 p1)) hx λg2 e P he=>?_)
 obtain⟨oe,m,X⟩:=he;have z2:IsZip g2 z TI TO .ellipsis:=P _ _ F N;have ez:e≠z:=λx=>by subst x;rw[z2]at m;cases m;simp at X
 refine wpAny_setField_rec z2 (by simp) λg3 _ s3=>hE g3 e (λc o Y x=>?_) ⟨oe,s3.extBut _ _ ez m,X⟩
 simp only[Aa1,Ac2,or_false,not_or]at Y;exact s3.extBut _ _ Y.1 (P _ _ Y.2.2.1 (M c Y.1 o x))
theorem bU5 {z TI TO i1 i2 l1 l2:Addr}{k:Nat}{xs:Array Value}{x y a b:Value}{Q:Option Value->Shared->Prop}(D:ZAp z TI TO i1 i2 l1 l2)(X:IsZip s.heap z TI TO .none)(e:IsPair s.heap TI (.ref i1) (.ref i2))(m:IsPair s.heap TO a b)
  (h1:Iqh κ s.heap i1 l1 k) (P:s.heap.IsTupleIter i2 l2 k) (t1:Sqh κ s.heap l1 xs) (t2:s.heap.IsTuple l2 ys) (hx:xs[k]? = some x) (hy:ys[k]? = some y)
  (hQ:∀h',IsZip h' z TI TO (rawInt s.heap.objs.size)->IsPair h' TO x y->Iqh κ h' i1 l1 (k+1)->h'.IsTupleIter i2 l2 (k+1)->IsPair h' s.heap.objs.size x y->(∀c o,c∉[z,TO,i1,i2]->s.heap.get? c=some o->h'.get? c=some o)->Q (some (.ref s.heap.objs.size)) {s with heap:=h'}) :
  wpAny (model prog w) A (pyNext (.ref z)) Q E s:=by
 have Y:s.TypeIs (.ref z) "zip" := ⟨_,X,rfl⟩
 unfold pyNext;exact Aa (wpAny_attempt (Bj (name:=Str.ofString "__next__") Y F.slot_zip_next (Bf F.slot_zip_next Y F.entry_zip_next (cF0 D X e m h1 P t1 t2 hx hy λh' U J M N R B=>Ab (hQ h' U J M N R B)) (F.args_zip_next_1 _))))
theorem cG4 {z TI TO i1 i2 l1 l2:Addr}{k:Nat}{xs:Array Value}{a b:Value}{Q:Option Value->Shared->Prop}(N:A.handled=none)(D:ZAp z TI TO i1 i2 l1 l2)(U:IsZip s.heap z TI TO .none)(m:IsPair s.heap TI (.ref i1) (.ref i2))(Y:IsPair s.heap TO a b)
  (h1:Iqh κ s.heap i1 l1 k) (t1:Sqh κ s.heap l1 xs) (B:xs[k]? = none) (J:∀h',(∀c o,c∉[z,TO,i1,i2]->s.heap.get? c=some o->h'.get? c=some o)->Q none {s with heap:=h'}):wpAny (model prog w) A (pyNext (.ref z)) Q E s:=by
 have X:s.TypeIs (.ref z) "zip" := ⟨_,U,rfl⟩
 unfold pyNext;refine Aa (wpAny_attempt (Bj (name:=Str.ofString "__next__") X F.slot_zip_next (Bf F.slot_zip_next X F.entry_zip_next (cQ7 N D U m Y h1 t1 B λh' e R he=>?_) (F.args_zip_next_1 _))))
 obtain⟨o,ho,M⟩:=he;exact Aa (wpAny_isInstance (T := "StopIteration") (b:=true) ⟨o,ho,M⟩ isSubtype_stop (Ab (J _ R)))
abbrev zT1 (κ:Bool)(h:Heap)(l1:Addr):Heap:=h.push {cls:=.type (qn κ),data:=.fields #[.ref l1,.int 0 0]}
abbrev zT2 (κ:Bool)(h:Heap)(l1 l2:Addr):Heap:=(zT1 κ h l1).push {cls:=.type "tuple_iterator",data:=.fields #[.ref l2,.int 0 0]}
abbrev zT3 (κ:Bool)(h:Heap)(l1 l2:Addr):Heap:=(zT2 κ h l1 l2).push {cls:=.type "tuple",data:=.seq #[.ref h.objs.size,.ref (zT1 κ h l1).objs.size]}
abbrev zT4 (κ:Bool)(h:Heap)(l1 l2:Addr):Heap:=(zT3 κ h l1 l2).push {cls:=.type "tuple",data:=.seq #[.none,.none]}
abbrev zT5 (κ:Bool)(h:Heap)(l1 l2:Addr):Heap:=(zT4 κ h l1 l2).push {cls:=.type "zip",data:=.fields #[.none,.bool false,.bool false,.ref (zT2 κ h l1 l2).objs.size,.ref (zT3 κ h l1 l2).objs.size]}
theorem bT3 (κ:Bool)(z m:Addr)(xs ys:Array Value):Meets (Builtin.«zip.__new__» ⟨[.type "zip",.ref z,.ref m],[]⟩) (λ_ R s=>Sqh κ s.heap z xs/\s.heap.IsTuple m ys/\R (.ok (.ret (.ref (zT4 κ s.heap z m).objs.size))) {s with heap:=zT5 κ s.heap z m}):=
 .of_wp λprog w A R s h=>by
  obtain⟨hp,g,d,N,os⟩:=s;obtain⟨U,J,h⟩:=h;have M:=sub_zip;have Y:Sqh κ (Shared.heap ⟨hp,g,d,N,os⟩) z xs:=U;have X:Heap.IsTuple (Shared.heap ⟨hp.push {cls:=.type (qn κ),data:=.fields #[.ref z,.int 0 0]},g,d,N,os⟩) m ys:=aT7 (b:=m) J λo e=>Aa6 _ e
  wp_walk using cW5 Y,wpAny_pyIter_tuple X
  exact⟨_,rfl,h⟩
theorem cD7 {l1 l2:Addr}{xs ys:Array Value}{Q:Ef}(z:Sqh κ s.heap l1 xs)(m:s.heap.IsTuple l2 ys)
  (h:∀h',IsZip h' (s.heap.objs.size+4) (s.heap.objs.size+2) (s.heap.objs.size+3) .none->IsPair h' (s.heap.objs.size+2) (.ref s.heap.objs.size) (.ref (s.heap.objs.size+1))->IsPair h' (s.heap.objs.size+3) .none .none->Iqh κ h' s.heap.objs.size l1 0->h'.IsTupleIter (s.heap.objs.size+1) l2 0->(∀c o,s.heap.get? c=some o->h'.get? c=some o)->Q (.ref (s.heap.objs.size+4)) {s with heap:=h'}) :
  wpAny (model prog w) A (call (.type "zip") [.ref l1,.ref l2]) Q E s:=by
 refine callType_new F.called_zip (by decide) (F.typeCall_zip_2 _ _) (F.newCall_zip_2 _ _) (λY=>F.args_object_init_3 Y _ _) F.entry_zip_new (bT3 κ l1 l2 xs ys) ⟨z,m,?_⟩
 have X:(zT1 κ s.heap l1).objs.size=s.heap.objs.size+1:=Ce ..
 have U:(zT2 κ s.heap l1 l2).objs.size=s.heap.objs.size+2:=by rw[Ce,X]
 have J:(zT3 κ s.heap l1 l2).objs.size=s.heap.objs.size+3:=by rw[Ce,U]
 have D:(zT4 κ s.heap l1 l2).objs.size=s.heap.objs.size+4:=by rw[Ce,J]
 have e:(zT5 κ s.heap l1 l2).get? (zT4 κ s.heap l1 l2).objs.size=some _:=Ac3 _ rfl
 have R:(zT5 κ s.heap l1 l2).get? (zT3 κ s.heap l1 l2).objs.size=some _:=Aa6 _ (Ac3 _ rfl)
 have N:(zT5 κ s.heap l1 l2).get? (zT2 κ s.heap l1 l2).objs.size=some _:=Aa6 _ (Aa6 _ (Ac3 _ rfl))
 have M:(zT5 κ s.heap l1 l2).get? (zT1 κ s.heap l1).objs.size=some _:=Aa6 _ (Aa6 _ (Aa6 _ (Ac3 _ rfl)))
 have B:(zT5 κ s.heap l1 l2).get? s.heap.objs.size=some _:=Aa6 _ (Aa6 _ (Aa6 _ (Aa6 _ (Ac3 _ rfl))))
 show _/\_
 rw[U,J,D]at e;rw[X,U]at N;rw[J]at R;rw[X]at M;rw[D];exact⟨⟨_,e,rfl⟩,h _ e N R (by cases κ <;> exact⟨_,B,rfl,rfl⟩) ⟨_,M,rfl,rfl⟩ λc o x=>Aa6 _ (Aa6 _ (Aa6 _ (Aa6 _ (Aa6 _ x))))⟩
end
theorem dB2 (n a b:Nat)(m:a<n)(Y:b<n):ZAp (n+4) (n+2) (n+3) n (n+1) a b/\a≠n+2/\b≠n+2/\∀c∈[n+4,n+2,n+3,n,n+1],n<=c:=by
 have s:([n+4,n+2,n+3,n,n+1]:List Nat).Nodup:=by
  simp only[Aa5,Aa1,Ac2,or_false,not_or,not_false_eq_true,List.nodup_nil,and_true]
  lia
 have w:a∉([n+4,n+3,n,n+1]:List Nat):=by simp only[Aa1,Ac2,or_false,not_or];lia
 have z:b∉([n+4,n+3,n,n+1]:List Nat):=by simp only[Aa1,Ac2,or_false,not_or];lia
 refine⟨⟨s,w,z⟩,by lia,by lia,λc e=>?_⟩
 simp only[Aa1,Ac2,or_false]at e;lia
def Izt (κ:Bool)(K:Frag)(a b:Addr):It:=
 ⟨λi H=>∃xs ys x y,SqK κ K H a xs/\xs[i]? = some x/\SqT K H b ys/\ys[i]? = some y,λi H v H'=>∃T x y,v=.ref T/\H T=none/\H'=upd H T (.tup [x,y])/\(∀xs,SqK κ K H a xs->xs[i]? = some x)/\∀ys,SqT K H b ys->ys[i]? = some y,λi H=>∃xs,SqK κ K H a xs/\xs.length<=i⟩
theorem cF1 (κ:Bool){P:Program}{w:World}{K:Frag}{elts:List Expr}{k:_}{pos:Pos}(a b z TI TO i1 i2:Addr)(D:ZAp z TI TO i1 i2 a b)(aT:a≠TI)(bT:b≠TI):aY8 P w K (.Tuple elts k pos) (Izt κ K a b) [z,TI,TO,i1,i2] z (λi h=>IsZip h z TI TO .none/\IsPair h TI (.ref i1) (.ref i2)/\(∃u v,IsPair h TO u v)/\Iqh κ h i1 a i/\h.IsTupleIter i2 b i) where
 mem:=by simp
 obj:=λi h st c J=>by
  obtain⟨M,Y,⟨u,v,U⟩,h1,⟨o2,e2,_,d2⟩⟩:=st;obtain⟨o1,_,e1,d1⟩:=h1.ob;simp only[Aa1,Ac2,or_false]at J;rcases J with rfl | rfl | rfl | rfl | rfl
  .exact⟨_,M,λv z=>by cases z⟩
  .exact⟨_,Y,λv z=>by cases z⟩
  .exact⟨_,U,λv z=>by cases z⟩
  .exact⟨o1,e1,λv z=>by rw[d1]at z;cases z⟩
  .exact⟨o2,e2,λv z=>by rw[d2]at z;cases z⟩
 keep:=λi h h' st k=>by
  obtain⟨M,Y,⟨u,v,U⟩,h1,Q⟩:=st;exact⟨k z (by simp) _ M,k TI (by simp) _ Y,⟨u,v,k TO (by simp) _ U⟩,h1.at λo e=>k i1 (by simp) o e,Q.at λo e=>k i2 (by simp) o e⟩
 item:=by
  intro X hP hw hK J i aA s σ H E I B st hg;subst hP hw hK;obtain⟨M,Y,⟨u,v,U⟩,h1,Q⟩:=st;obtain⟨xs,ys,x,y,hq,hx,F,hy⟩:=hg;obtain⟨its,rv,p⟩:=I.seqq hq;obtain⟨its',rv',p',_⟩:=I.tuple F;obtain⟨x',hu,ru⟩:=rv.get hx;obtain⟨y',hu',ru'⟩:=rv'.get hy;have nd:=D.nd;simp only[Aa5,Aa1,Ac2,or_false,not_or,not_false_eq_true,List.nodup_nil,and_true]at nd;obtain⟨⟨n1,n2,n3,n4⟩,⟨n5,n6,n7⟩,⟨n8,n9⟩,n10⟩:=nd;refine bU5 D M Y U h1 Q p p' (x:=x') (y:=y') (by simpa using hu) (by simpa using hu') λh' z' o' i1' i2' T' kp=>⟨_,rfl,?_⟩
  have N:∀c o,s.heap.get? c=some o->c≠s.heap.objs.size:=λc o e z=>by have h1:=Ab3 e;rw[z]at h1;exact Ad9 _ h1
  refine wpAny_letOwnedTupleGo_zip z' λg2 z2 R=>?_
  have kp2:∀c o,c∉[z,TI,TO,i1,i2]->s.heap.get? c=some o->g2.get? c=some o:=λc o J e=>R.extBut _ _ (λe=>J (by simp[e])) (kp c o (λm=>J (by simp only[Aa1,Ac2,or_false]at m ⊢;rcases m with m | m | m | m <;> simp[m])) e)
  have T2:IsPair g2 s.heap.objs.size x' y':=R.extBut _ _ (Ne.symm (N _ _ M)) T'
  have TI2:IsPair g2 TI (.ref i1) (.ref i2):=R.extBut _ _ (Ne.symm n1) (kp TI _ (by simp[Ne.symm n1,n5,n6,n7]) Y)
  refine⟨.ref s.heap.objs.size,upd H s.heap.objs.size (.tup [x,y]),?_,rfl,⟨_,x,y,rfl,I.hok.fresh (Aa7 _),rfl,λys hy=>by rw[bQ0 I hy hq];exact hx,λzs M=>by rw[tuple_inj I M F];exact hy⟩,⟨z2,TI2,⟨_,_,R.extBut _ _ (Ne.symm n2) o'⟩,i1'.at λo e=>R.extBut _ _ (Ne.symm n3) e,i2'.at λo e=>R.extBut _ _ (Ne.symm n4) e⟩,λc J=>?_⟩
  .refine I.turnedLaid (t':=s.toks) (fp:=[z,TI,TO,i1,i2]) kp2 B (Aa7 _) ?_;exact⟨by show 2<=sizeLine;decide,[x',y'],.cons ru (.cons ru' .nil),⟨_,T2,rfl,⟨_,rfl⟩,rfl⟩⟩
  .rw[B0]
   .exact(B c J).1
   .obtain⟨o1,_,e1,_⟩:=h1.ob;obtain⟨o2,e2,_⟩:=Q;simp only[Aa1,Ac2,or_false]at J;rcases J with rfl | rfl | rfl | rfl | rfl
    .exact N _ _ M
    .exact N _ _ Y
    .exact N _ _ U
    .exact N _ _ e1
    .exact N _ _ e2
 done:=by
  intro X hP hw hK J i aA s σ H E I B st hg;subst hP hw hK;obtain⟨M,Y,⟨u,v,U⟩,h1,Q⟩:=st;obtain⟨xs,hq,hx⟩:=hg;obtain⟨its,rv,p⟩:=I.seqq hq;have hl:=rv.length;exact cG4 (I.ok.hd J) D M Y U h1 p (by simp;lia) λh' kp=>⟨rfl,I.turnedL (t':=s.toks) (λc o J q=>kp c o (λm=>J (by simp only[Aa1,Ac2,or_false]at m ⊢;rcases m with m | m | m | m <;> simp[m])) q) B⟩
 self:=λ_ _ _ _ _ st h=>wpAny_pyIter_zip st.1 h
section
variable {X:Cx}{elts:List Expr}{k:Nat}{ps:Pos}
def dF8 (κ:Bool)(K:Frag)(ta:TA):TI:=λσ H R=>ta σ H λvs H1=>∃a b xs ys,vs=[.ref a,.ref b]/\SqK κ K H1 a xs/\SqT K H1 b ys/\R (Izt κ K a b) H1
theorem cB5 (κ:Bool){l l':Expr}{ta:TA}{p pos:Pos}(K:Frag)(hg:Gl X "zip")(hm:X.mg "zip" = none)(ha:PA X [l,l'] ta)(hK:X.K=K:=by rfl)(hs:starEach [l,l'] X.env=[(false,eval l X.env),(false,eval l' X.env)]:=by rfl)(z:starEach [l'] X.env=[(false,eval l' X.env)]:=by rfl):PI X (.Tuple elts k ps) (.Call (.Name "zip" p) [l,l'] [] pos) (dF8 κ K ta):=by
 subst hK;refine⟨?_⟩;intro B s σ H R I h;refine Call_ (m5 I hg hm boot_zip (Bv (thn (ha pos B s σ H _ I h) λus F ⟨vs,H1,w,r1,q1⟩=>?_) (by rw[hs,z]) (by rw[z];rfl)))
 obtain⟨a,b,xs,ys,e,hq,J,q⟩:=q1;subst e;cases r1 with
 | cons r rr=>
  cases rr with
  | cons r' rr=>
   cases rr
   cases r
   cases r'
   obtain⟨its,_,Q⟩:=w.seqq hq;obtain⟨N,_,m,_⟩:=w.tuple J;have la:=Q.lt;have lb:b<F.heap.objs.size:=by obtain⟨o,e,_⟩:=m;exact Ab3 e
   refine cD7 Q m λh' M Y U h1 P kp=>wpAny_pyIter_zip M ?_
   obtain⟨D,nA,nB,nC⟩:=dB2 _ _ _ la lb;refine⟨_,_,_,_,H1,rfl,w.kept (t':=F.toks) kp,cF1 κ a b _ _ _ _ _ D nA nB,⟨M,Y,⟨_,_,U⟩,h1,P⟩,λc hc=>?_,q⟩
   have:=nC c hc
   exact w.fpOk this (w.hok.fresh this)
end
end L2
namespace LV
open PySem PySem.Spec PyProof.Rows L2
section
variable {K:Frag}{ρ:List Sl}{m:Bool}{t ta tb:TE}{d d':PyData}{ds es:List PyData}
def zpD:List PyData->List PyData->List PyData
 | d::ds,e::es=>.tuple [d,e]::zpD ds es
 | _,_=>[]
theorem aR0:∀{ds es:List PyData},ds.length=es.length->(zpD ds es).length=ds.length
 | [],[],_=>rfl
 | d::ds,e::es,h=>by simp[zpD,aR0 (ds:=ds) (es:=es) (by simpa using h)]
theorem aV9:∀{ds es:List PyData} {i:Nat} {d:PyData},(zpD ds es)[i]? = some d->∃x y,ds[i]? = some x/\es[i]? = some y/\d=.tuple [x,y]
 | [],_,_,_,h=>by simp[zpD]at h
 | _::_,[],_,_,h=>by simp[zpD]at h
 | x::ds,y::es,0,d,h=>⟨x,y,rfl,rfl,by simpa[zpD]using h.symm⟩
 | x::ds,y::es,i+1,d,h=>by
  obtain⟨u,v,h1,h2,h3⟩:=aV9 (ds:=ds) (es:=es) (i:=i) (d:=d) (by simpa[zpD]using h)
  exact⟨u,v,by simpa using h1,by simpa using h2,h3⟩
theorem T7 {κ:Bool}{H H':Hp}{a:Addr}{xs:List V}(h:Same H H')(s:SqK κ K H a xs):SqK κ K H' a xs:=by
 cases κ
 .exact D3 h s
 .exact O5 h s
theorem dA0 {κ:Bool}{Z:Hp}{a b:Addr}{xs ys:List V}(s:SqK κ K Z a xs)(r:Reps K Z xs ds)(s':SqT K Z b ys)(r':Reps K Z ys es)(R:ds.length=es.length):Wk K Z (Izt κ K a b) (zpD ds es) where
 stop:=λi H h l=>⟨xs,T7 h s,by rw[r.length,<- aR0 R];exact l⟩
 go:=λi H d h e=>by
  obtain⟨x,y,w,Y,_⟩:=aV9 e;obtain⟨v,h1,_⟩:=r.get' w;obtain⟨u,N,_⟩:=r'.get' Y;exact⟨xs,ys,v,u,T7 h s,h1,D3 h s',N⟩
 yld:=λi H d x F h e y=>by
  obtain⟨p,q,w,Y,rfl⟩:=aV9 e;obtain⟨T,v,u,rfl,U,rfl,Q,D⟩:=y;obtain⟨B,f1,f2⟩:=r.get (Q xs (T7 h s));obtain⟨P,f3,M⟩:=r'.get (D ys (D3 h s'));rw[w]at f1;cases f1;rw[Y]at f3;cases f3;have g:=D1 (o:=.tup [v,u]) U;refine⟨g,λS X=>?_⟩
  have J:Same Z (hid S (upd H T (.tup [v,u]))):=λb o q=>hid_some.mpr ⟨(λz=>by rw[(X b z).1]at q;cases q),g b o (h b o q)⟩
  exact .tup (SqT.of (hid_some.mpr ⟨λz=>(X T z).2 U,B3⟩)) (.cons (f2.mono J) (.cons (M.mono J) .nil))
def dq (κ:Bool)(ds:List PyData):PyData:=match κ with | true=>.list ds | false=>.tuple ds
theorem cN4 {κ:Bool}{H:Hp}{v:V}(r:Rep K H v (dq κ ds)):∃a xs,v=.ref a/\SqK κ K H a xs/\Reps K H xs ds:=by
 cases κ <;> (cases r;exact⟨_,_,rfl,‹_›,‹_›⟩)
theorem cT7 (κ:Bool){t:TA}(h:A K m t ρ [dq κ ds,.tuple es])(w:ds.length=es.length):I K m (dF8 κ K t) ρ (zpD ds es):=λS B σ H o J R q=>h S B σ H o J _ λvs H1 Y r=>by
 cases r with
 | cons a b=>
  cases b with
  | cons b c=>
   cases c
   obtain⟨x,xs,rfl,s,r⟩:=cN4 a;cases b with
   | tup e z=>exact⟨_,_,_,_,rfl,T7 aA3 s,D3 aA3 e,q _ H1 Y (dA0 s r e z w)⟩
end
end LV
namespace L2
open PySem PySem.Spec PyProof.Rows
section
variable {prog:Program}{w:World}{A:Around}{E:Ef}{s:Shared}{κ:Bool}
theorem Sqh.ne {h:Heap}{a e:Addr}{xs:Array Value}{o:Obj}{n:String}(H:Sqh κ h a xs)(q:h.get? e=some o)(c:o.cls=.type n)(h1:n≠"list")(Y:n≠"tuple"):a≠e:=by
 rintro rfl;cases κ <;> (obtain⟨X,m,z,_⟩:=H;rw[q]at m;cases m;rw[c]at z;injection z with z)
 .exact Y z
 .exact h1 z
theorem Iqh.obc {h:Heap}{i l:Addr}{k:Nat}(x:Iqh κ h i l k):∃o,h.get? i=some o/\o.cls=.type (qn κ):=by cases κ <;> (obtain⟨o,ho,c,r⟩:=x;exact⟨o,ho,c⟩)
theorem cZ7 (J:A.handled=none)(it t:Addr)(z:t≠it)(items:Array Value):Draws prog w A it [it,t] items.size (λi v=>items[i]? = some v) λi h=>Iqh κ h it t i/\Sqh κ h t items where
 live:=λi h st=>by obtain⟨o,_,e,_⟩:=st.1.ob;exact⟨_,e⟩
 frame:=λi h Y st k=>⟨st.1.at λo e=>k it (by simp) o e,st.2.same λo e=>k t (by simp) o e⟩
 item:=λi s Q E hi st h=>by
  have X:items[i]? = some items[i]:=Af hi
  exact aV6 st.1 st.2 X λY m U=>h _ Y s.toks X ⟨m,st.2.same λo e=>by rw[U.2 t z];exact e⟩ U
 done:=λs Q E st h=>aM9 J st.1 st.2 (by simp) h
theorem cH1 {t:Addr}{items:Array Value}{Q:Ef}(e:Sqh κ s.heap t items)
  (h:∀h':Heap,IsEnum h' (s.heap.objs.size+1) s.heap.objs.size 0 .none->Iqh κ h' s.heap.objs.size t 0->(∀b o,s.heap.get? b=some o->h'.get? b=some o)->Q (.ref (s.heap.objs.size+1)) {s with heap:=h'}):wpAny (model prog w) A (call (.type "enumerate") [.ref t]) Q E s:=by
 cases κ
 .exact aA4 e h
 .exact call_enumerate_list e λh' a b _ d=>h h' a b d
end
def Ieq (κ:Bool)(K:Frag)(a:Addr):It:=
 ⟨λi H=>∃xs x,SqK κ K H a xs/\xs[i]? = some x,λi H x H'=>∃T y,x=.ref T/\H T=none/\H'=upd H T (.tup [.int (i:Int),y])/\∀xs,SqK κ K H a xs->xs[i]? = some y,λi H=>∃xs,SqK κ K H a xs/\xs.length<=i⟩
theorem bT7 (κ:Bool){P:Program}{w:World}{K:Frag}{elts:List Expr}{k:_}{pos:Pos}(a e it:Addr)(Y:e≠it):aY8 P w K (.Tuple elts k pos) (Ieq κ K a) [e,it] e (λi h=>(∃old,IsEnum h e it (i:Int) old)/\Iqh κ h it a i) where
 mem:=by simp
 obj:=λi h st b hb=>by
  obtain⟨⟨old,he⟩,hi⟩:=st;obtain⟨o,_,e1,d⟩:=hi.ob;rcases Aa1.mp hb with rfl | hb
  .exact⟨_,he,λv z=>by cases z⟩
  .have J:b=it:=by simpa using hb
   subst J;exact⟨o,e1,λv z=>by rw[d]at z;cases z⟩
 keep:=λi h m st k=>⟨⟨st.1.choose,k e (by simp) _ st.1.choose_spec⟩,st.2.at λo q=>k it (by simp) o q⟩
 item:=by
  intro X B hw F hc i aA s σ H E I M st hg;subst B hw F;obtain⟨⟨old,he⟩,hi⟩:=st;obtain⟨xs,x,N,hx⟩:=hg;obtain⟨its,rv,p⟩:=I.seqq N;obtain⟨u,hu,ru⟩:=rv.get hx;have ea:a≠e:=p.ne he rfl (by decide) (by decide)
  obtain⟨oi,ei,ci⟩:=hi.obc;have D:a≠it:=p.ne ei ci (by cases κ <;> decide) (by cases κ <;> decide)
  have hlt:i<its.toArray.size:=by have:=(Ab0.mp hu).1;simpa using this
  refine wpAny_pyNext_enum_itemD (cZ7 (A:=X.A.in1) (I.ok.hd hc) it a D its.toArray) he ⟨hi,p⟩ hlt Y (by simp[Y,Ne.symm ea]) λy m tk R ho hst hT hs kp=>?_
  have ey:y=u:=by
   have h1:its.toArray[i]? = some u:=by simpa using hu
   rw[h1]at R;exact(Ab4 R).symm
  subst ey;obtain⟨hi',p'⟩:=hst;refine⟨_,rfl,?_⟩;have Te:s.heap.objs.size≠e:=λz=>by have h1:=Ab3 he;rw[z]at h1;exact Ad9 _ h1
  have Ti:s.heap.objs.size≠it:=λz=>by have h1:=Ab3 ei;rw[z]at h1;exact Ad9 _ h1
  unfold letOwnedTupleGo;refine Aa (wpAny_load ho ?_);dsimp only;rw[Ae (by simp[rawInt])]
  refine Aa (wpAny_rule ?_);unfold updateField;refine Aa (wpAny_load ho ?_);dsimp only;rw[Ae (by simp)]
  refine wpAny_update ho ?_;have he2:(m.update e (Obj.mapFields λx=>x.setIfInBounds 0 .none)).get? e=some {cls:=.type "enumerate",data:=.fields #[.none,.bool false,.ref it,rawInt ((i:Int)+1),.none,y]}:=Bq (h:=m) (o:={cls:=.type "enumerate",data:=.fields #[rawInt (s.heap.objs.size:Int),.bool false,.ref it,rawInt ((i:Int)+1),.none,y]}) (λo=>Obj.mapFields (λx=>x.setIfInBounds 0 .none) o) ho rfl
  have U:∀b o,b≠e->m.get? b=some o->(m.update e (Obj.mapFields λx=>x.setIfInBounds 0 .none)).get? b=some o:=λb o hb q=>by rw[Heap.get?_update_ne _ _ _ _ hb];exact q
  have hT2:=U s.heap.objs.size _ Te hT
  refine⟨.ref s.heap.objs.size,upd H s.heap.objs.size (.tup [.int (i:Int),x]),?_,rfl,⟨_,x,rfl,I.hok.fresh (Aa7 _),rfl,λys R=>by rw[bQ0 I R N];exact hx⟩,⟨⟨y,by rw[show((i+1:Nat):Int)=(i:Int)+1 by lia];exact he2⟩,hi'.at λo q=>U it o (Ne.symm Y) q⟩,λb hb=>?_⟩
  .refine I.turnedLaid (t':=tk+1) (fp:=[e,it]) (λb o hb q=>U b o (λz=>hb (by simp[z])) (kp b o (λz=>hb (by simp[z])) (λz=>hb (by simp[z])) q)) M (Aa7 _) ?_
   exact⟨by show 2<=sizeLine;decide,[.int (i:Int) tk,y],.cons ⟨_,rfl⟩ (.cons ru .nil),⟨_,hT2,rfl,⟨_,rfl⟩,rfl⟩⟩
  .rw[B0]
   .exact(M b hb).1
   .rcases Aa1.mp hb with rfl | hb
    .exact Ne.symm Te
    .have J:b=it:=by simpa using hb
     subst J;exact Ne.symm Ti
 done:=by
  intro X B hw F hc i aA s σ H E I M st hg;subst B hw F;obtain⟨⟨old,he⟩,hi⟩:=st;obtain⟨xs,N,hx⟩:=hg;obtain⟨its,rv,p⟩:=I.seqq N;have hl:=rv.length;have hD:Draws X.prog X.w X.A.in1 it [it,a] i (λ_ _=>False) (λj h=>j=i/\Iqh κ h it a i/\Sqh κ h a its.toArray):=⟨λj h st=>by obtain⟨o,_,e,_⟩:=st.2.1.ob;exact⟨_,e⟩,λj h m st k=>⟨st.1,st.2.1.at λo e=>k it (by simp) o e,st.2.2.same λo e=>k a (by simp) o e⟩,λj s Q E hj st _=>absurd st.1 (Ab9 hj),λs Q E st h=>aM9 (I.ok.hd hc) st.2.1 st.2.2 (by simp;lia) h⟩
  exact wpAny_pyNext_enum_endD hD he ⟨rfl,hi,p⟩ λm J=>⟨rfl,I.turnedL (t':=s.toks) (λb o hb q=>J b o (λz=>hb (by simp[z])) q) M⟩
 self:=λ_ _ _ _ _ st h=>wpAny_pyIter_enum st.1.choose_spec h
section
variable {X:Cx}{elts:List Expr}{k:Nat}{ps:Pos}
def cT1 (κ:Bool)(K:Frag)(ta:TA):TI:=λσ H R=>ta σ H λvs H1=>∃a xs,vs=[.ref a]/\SqK κ K H1 a xs/\R (Ieq κ K a) H1
theorem bO5 (κ:Bool){l:Expr}{ta:TA}{p pos:Pos}(K:Frag)(J:Gl X "enumerate")(M:X.mg "enumerate" = none)(U:PA X [l] ta)(Y:X.K=K:=by rfl)(Q:starEach [l] X.env=[(false,eval l X.env)]:=by rfl):PI X (.Tuple elts k ps) (.Call (.Name "enumerate" p) [l] [] pos) (cT1 κ K ta):=by
 subst Y;refine⟨?_⟩;intro m s σ H R I h;refine Call_ (m5 I J M boot_enumerate (Bv (thn (U pos m s σ H _ I h) λus z ⟨vs,H1,w,B,F⟩=>?_) Q rfl))
 obtain⟨a,xs,e,N,q⟩:=F;subst e;obtain⟨u,rfl,P⟩:=T1 B;cases P;obtain⟨its,rv,D⟩:=w.seqq N;refine cH1 D λh' he hi kp=>?_
 refine wpAny_pyIter_enum he ?_;refine⟨z.heap.objs.size+1,[z.heap.objs.size+1,z.heap.objs.size],_,_,H1,rfl,w.kept (t':=z.toks) kp,bT7 κ a _ _ (by simp),⟨⟨_,he⟩,hi⟩,λb hb=>?_,q⟩
 rcases Aa1.mp hb with rfl | hb
 .exact w.fpOk (Nat.le_succ _) (w.hok.fresh (Nat.le_succ _))
 .have e:b=z.heap.objs.size:=by simpa using hb
  subst e;exact w.fpOk (Aa7 _) (w.hok.fresh (Aa7 _))
end
end L2
namespace LV
open PySem PySem.Spec PyProof.Rows L2
section
variable {K:Frag}{ρ:List Sl}{m:Bool}{t ta tb:TE}{d d':PyData}{ds es:List PyData}
theorem cQ3 {κ:Bool}{Z:Hp}{a:Addr}{xs:List V}(s:SqK κ K Z a xs)(r:Reps K Z xs ds):Wk K Z (Ieq κ K a) (enD ds) where
 stop:=λi H h l=>⟨xs,T7 h s,by rw[r.length,<- bY2];exact l⟩
 go:=λi H d h e=>by
  obtain⟨y,e,_⟩:=bI9 e;obtain⟨v,h1,_⟩:=r.get' e;exact⟨xs,v,T7 h s,h1⟩
 yld:=λi H d x J h e y=>by
  obtain⟨z,e',rfl⟩:=bI9 e;obtain⟨T,v,rfl,Y,rfl,y⟩:=y
  have:=y xs (T7 h s)
  obtain⟨d',h1,X⟩:=r.get this;rw[e']at h1;cases h1;have g:=D1 (o:=.tup [.int (i:Int),v]) Y;refine⟨g,λS w=>?_⟩
  have U:Same Z (hid S (upd H T (.tup [.int (i:Int),v]))):=λb o q=>hid_some.mpr ⟨(λz=>by rw[(w b z).1]at q;cases q),g b o (h b o q)⟩
  exact .tup (SqT.of (hid_some.mpr ⟨λz=>(w T z).2 Y,B3⟩)) (.cons (.int _) (.cons (X.mono U) .nil))
theorem bV0 (κ:Bool){t:TA}(h:A K m t ρ [dq κ ds]):I K m (cT1 κ K t) ρ (enD ds):=λS B σ H o J R q=>h S B σ H o J _ λvs H1 e r=>by
 cases r with
 | cons a b=>
  cases b
  obtain⟨x,xs,rfl,s,r⟩:=cN4 a;exact⟨_,_,rfl,T7 aA3 s,q _ H1 e (cQ3 s r)⟩
end
end LV
set_option maxHeartbeats 4000000
namespace L2
open PySem PySem.Spec PyProof.Rows
section
variable {X:Cx}
theorem psS (i:Nat){N P:List Str}{sc:Scope}{x:Str}{e:Expr}{te:TE}{pos' pos:Pos}(S:C1 N P sc)(he:PE X e te)(hN:X.N=N:=by rfl)(hi:N[i]? = some x:=by rfl)(s:Loc X.env.scope x:=by exact Or.inl rfl)(z:swapsWith e (some (.Name x pos')) pos.line X.env=pure false:=by rfl)(w:X.fn x=true\/X.env.scope.names.lookup x=some .local:=by first | exact .inl rfl | exact .inr rfl | assumption):PS X (.Assign [.Name x pos'] e pos) (aL7 te (G7 i)):=by
 subst hN;exact aN5 S.nd hi s he z w
theorem pgN (i:Nat){N P:List Str}{sc:Scope}{x:Str}{pos:Pos}(S:C1 N P sc)(hN:X.N=N:=by rfl)(hi:N[i]? = some x:=by rfl)(w:Loc X.env.scope x:=by exact Or.inl rfl)(e:X.fn x=true\/X.env.scope.names.lookup x=some .local:=by first | exact .inl rfl | exact .inr rfl | assumption):PG X (.Name x pos) (G7 i):=by
 subst hN;exact K4 S.nd hi w e
end
end L2
namespace LV
open PySem L2
section
variable {K:Frag}{ρ:List Sl}{m:Bool}{d:PyData}{a b c e f g h i j k l n:Sl}
theorem v0:E K m (D7 0) (.val d::ρ) d:=A6 rfl
theorem v1:E K m (D7 1) (a :: .val d::ρ) d:=A6 rfl
theorem v2:E K m (D7 2) (a::b :: .val d::ρ) d:=A6 rfl
theorem v3:E K m (D7 3) (a::b::c :: .val d::ρ) d:=A6 rfl
theorem v4:E K m (D7 4) (a::b::c::e :: .val d::ρ) d:=A6 rfl
theorem v5:E K m (D7 5) (a::b::c::e::f :: .val d::ρ) d:=A6 rfl
theorem v6:E K m (D7 6) (a::b::c::e::f::g :: .val d::ρ) d:=A6 rfl
theorem v7:E K m (D7 7) (a::b::c::e::f::g::h :: .val d::ρ) d:=A6 rfl
theorem v8:E K m (D7 8) (a::b::c::e::f::g::h::i :: .val d::ρ) d:=A6 rfl
end
end LV
namespace K34
open PySem L2 LV PyProof.Rows
theorem X3 {K:Frag}{pre:List PyData->PyData->Prop}{n:Nat}(h:∀ds d,pre ds d->ds.length=n):∀vs H Q E,spV K pre vs H Q E->vs.length=n:=λvs H Q E ⟨ds,S,d,_,r,p,_⟩=>by
 have e:=r.length
 rw[e];exact h ds d p
@[elab_as_elim] theorem us1 {M:List Value->Prop} {us:List Value} (hl:us.length=1) (h:∀w,M [w]):M us:=by match us,hl with | [w],_=>exact h _
@[elab_as_elim] theorem us2 {M:List Value->Prop} {us:List Value} (hl:us.length=2) (h:∀w z,M [w,z]):M us:=by match us,hl with | [w,z],_=>exact h _ _
@[elab_as_elim] theorem us3 {M:List Value->Prop} {us:List Value} (hl:us.length=3) (h:∀w z s,M [w,z,s]):M us:=by match us,hl with | [w,z,s],_=>exact h _ _ _
@[elab_as_elim] theorem us4 {M:List Value->Prop} {us:List Value} (hl:us.length=4) (h:∀w z s m,M [w,z,s,m]):M us:=by match us,hl with | [w,z,s,m],_=>exact h _ _ _ _
def top (i:Nat):Stmt:=PySem.Challenge.pw_threetrees_k34_heights.main.body.getD i (.Pass ⟨0,0,0,0⟩)
abbrev j4:Stmt:=top 5
abbrev P1:Stmt:=top 6
abbrev i8:Stmt:=top 7
abbrev aE1:Stmt:=top 8
abbrev l5:Stmt:=top 9
abbrev m9:Stmt:=top 10
abbrev bQ6:Stmt:=top 11
abbrev aN4:Stmt:=top 12
abbrev bE4:Stmt:=top 13
abbrev Y9:Stmt:=top 14
abbrev W4:Stmt:=top 15
abbrev y7:Stmt:=top 16
abbrev bT2:Stmt:=top 18
abbrev aN3:Stmt:=top 19
abbrev V2:Stmt:=top 21
abbrev j6:Stmt:=top 22
abbrev o6:Stmt:=top 23
abbrev l4:Stmt:=top 24
abbrev m6:Stmt:=top 25
abbrev i7:Stmt:=top 26
abbrev k7:Stmt:=top 27
abbrev Z3:Stmt:=top 28
abbrev O8:Stmt:=top 29
abbrev P2:Stmt:=top 30
abbrev l7:Stmt:=top 31
abbrev M7:Stmt:=top 32
abbrev U3:Stmt:=top 33
abbrev W3:Stmt:=top 34
abbrev aE0:Stmt:=top 35
abbrev N1:Stmt:=top 36
abbrev cP3:Stmt:=top 37
set_option genInjectivity false in
structure Ad where
 aJ3:Addr
 aG0:FuncData
 V3:Addr
 V6:FuncData
 aI3:Addr
 aJ0:FuncData
 aW7:Addr
 aV1:FuncData
 aK0:Addr
 aI2:FuncData
 aJ9:Addr
 aH9:FuncData
 cM5:Addr
 cU7:FuncData
 bB3:Addr
 bB6:FuncData
 cC5:Addr
 cA4:FuncData
 aD3:Addr
 aC4:FuncData
 t5:Addr
 y6:FuncData
 aO4:Addr
 aO2:FuncData
 cI3:Addr
 cK9:FuncData
 bA4:Addr
 bD1:FuncData
 t9:Addr
 w6:FuncData
 aF4:Addr
 aI1:FuncData
 aH8:Addr
 aI9:FuncData
 aF7:Addr
 aF5:FuncData
 aF6:Addr
 aG2:FuncData
 aF9:Addr
 aL1:FuncData
 aI8:Addr
 aI0:FuncData
 aC8:Addr
 aC9:FuncData
 W0:Addr
 W1:FuncData
 W9:Addr
 W5:FuncData
 aI4:Addr
 aI5:FuncData
 T6:Addr
 S9:FuncData
 r9:Addr
 t4:FuncData
 u5:Addr
 u9:FuncData
 aW5:Addr
 aV5:FuncData
 T4:Addr
 T9:FuncData
 bX2:Addr
 bO1:FuncData
structure Fx (K:Frag)(mg:Str->Option Value)(n:Str)(st:Stmt)(f:Addr)(d:FuncData)(ps:List Str):Prop where
 F:Fun K n n st f d
 m:mg n=some (.ref f)
 b:Binds K d ps []
section
variable {X:Cx}
theorem pcl {k j:Nat}{f:Addr}{fd:FuncData}{ps:List Str}{sp:Sp}{x:Str}{st:Stmt}{e:Expr}{es:List Expr}{t:TA}{p pos:Pos}(G:D2 X.prog X.w X.K X.mg X.base CX0 k f fd ps sp)(hr:Room j X.A)(F:Fx X.K X.mg x st f fd ps)(Y:PA X (e::es) t)(J:k<=j:=by decide)(U:Gl X x:=by rfl)
  (z:(x==("__debug__" : Str))=false:=by decide) (he:starEach (e::es) X.env=(false,eval e X.env)::starEach es X.env:=by rfl) (s:(backTo pos (starEach es X.env)).any (·.1)=false:=by rfl):PE X (.Call (.Name x p) (e::es) [] pos) (aW8 sp [] E0 t):=cY3 G (hr.mono J) U F.m F.F.kp F.b .nil dT1 Y z he s
end
set_option genInjectivity false in
structure Tx (K:Frag)(mg:Str->Option Value)(a:Ad):Prop where
 aG8:Fx K mg "begun_with" j4 a.aJ3 a.aG0 ["ring", "first"]
 V8:Fx K mg "begun_with_least" P1 a.V3 a.V6 ["ring"]
 U5:Fx K mg "ways_round" i8 a.aI3 a.aJ0 ["ring"]
 aE2:Fx K mg "ahead_in" aE1 a.aW7 a.aV1 ["turn", "place"]
 aK6:Fx K mg "round_from" l5 a.aK0 a.aI2 ["turns", "p", "q"]
 aH1:Fx K mg "all_rounds" m9 a.aJ9 a.aH9 ["turns"]
 cU1:Fx K mg "tied" bQ6 a.cM5 a.cU7 ["drawing", "p", "q"]
 bA9:Fx K mg "left_of" aN4 a.bB3 a.bB6 ["drawing", "p", "q"]
 cA6:Fx K mg "lands" bE4 a.cC5 a.cA4 ["drawing"]
 aC6:Fx K mg "inner_lands" Y9 a.aD3 a.aC4 ["drawing"]
 Q8:Fx K mg "land_left_of" W4 a.t5 a.y6 ["drawing", "p", "q"]
 aO8:Fx K mg "crossings" y7 a.aO4 a.aO2 ["drawing", "first", "shut"]
 cM6:Fx K mg "rise" bT2 a.cI3 a.cK9 ["one", "other", "p", "q"]
 R7:Fx K mg "heights" aN3 a.bA4 a.bD1 ["drawing", "one", "other"]
 N2:Fx K mg "_law_cell_at" V2 a.t9 a.w6 ["_law_script", "_law_k"]
 N8:Fx K mg "_law_mixed" j6 a.aF4 a.aI1 ["_law_cell", "_law_k"]
 aJ4:Fx K mg "_law_names" o6 a.aH8 a.aI9 ["_law_cell", "_law_m"]
 aK4:Fx K mg "_law_grown" l4 a.aF7 a.aF5 ["_law_first", "_law_second"]
 k8:Fx K mg "_law_begun" m6 a.aF6 a.aG2 ["_law_turn"]
 aH7:Fx K mg "_law_built" i7 a.aF9 a.aL1 ["_law_cell", "_law_cells", "_law_m"]
 aH0:Fx K mg "_law_whole" k7 a.aI8 a.aI0 ["_law_found"]
 aC5:Fx K mg "_law_arrows" Z3 a.aC8 a.aC9 ["_law_outs"]
 P4:Fx K mg "_law_arrow_rings" O8 a.W0 a.W1 ["_law_arrows_here"]
 P0:Fx K mg "_law_ring_turned" P2 a.W9 a.W5 ["_law_arrows_here", "_law_ring"]
 l9:Fx K mg "_law_moved" l7 a.aI4 a.aI5 ["_law_arrows_here", "_law_cells"]
 M6:Fx K mg "_law_lands_at_left" M7 a.T6 a.S9 ["_law_drawing"]
 U4:Fx K mg "_law_due_step" U3 a.r9 a.t4 ["_law_one", "_law_other", "_law_way"]
 w5:Fx K mg "_law_heights" W3 a.u5 a.u9 ["_law_drawing", "_law_one", "_law_other"]
 aD8:Fx K mg "_law_end" aE0 a.aW5 a.aV5 ["_law_drawing", "_law_arrows_here", "_law_lift"]
 J9:Fx K mg "_law_heights_right" N1 a.T4 a.T9 ["_law_drawing", "_law_one", "_law_other", "_law_found"]
 dC5:Fx K mg "law" cP3 a.bX2 a.bO1 ["_law_script"]
 aJ8:mg "ValueError" = none
 cM0:mg "all" = none
 bS9:mg "bool" = none
 X6:mg "enumerate" = none
 aY1:mg "int" = none
 Q6:mg "isinstance" = none
 P9:mg "len" = none
 aM5:mg "list" = none
 bY1:mg "min" = none
 L4:mg "range" = none
 j7:mg "reversed" = none
 cT6:mg "set" = none
 Q2:mg "sorted" = none
 M1:mg "tuple" = none
 bZ1:mg "zip" = none
 U6:∃ad,mg "OUTER_LAND" = some (.ref ad)/\∀H,SqT K H ad [.int 0,.int 2,.int 1]
structure Fq (K:Frag)(n:Str)(st:Stmt)(f:Addr)(d:FuncData):Prop where
 a:PySem.W.nsIn K mainGlobals n=some (some (.ref f))
 F:Fun K n n st f d
theorem Fq.fx1 {K:Frag}{h:Heap}{mg:Str->Option Value}{n x0:Str}{st:Stmt}{f:Addr}{d:FuncData}(q:Fq K n st f d)(X:K.In h)(G:h.Ns mainGlobals mg)(e:∀(kV doc pm:Value) (an:Option Addr) (cdv ct u0:Value),bindArgs (PySem.W.fnOf n n (Y0 st) (U7 st) (B2 st) .none kV doc pm an cdv ct) ⟨[u0],[]⟩=pure [(x0,u0)]:=by intros;rfl):Fx K mg n st f d [x0]:=⟨q.F,Dz X G q.a,q.F.binds λ_ _ _ _ _ _ z w=>us1 w λu0=>e _ _ _ _ _ _ u0⟩
theorem Fq.fx2 {K:Frag}{h:Heap}{mg:Str->Option Value}{n x0 x1:Str}{st:Stmt}{f:Addr}{d:FuncData}(q:Fq K n st f d)(X:K.In h)(G:h.Ns mainGlobals mg)(e:∀(kV doc pm:Value) (an:Option Addr) (cdv ct u0 u1:Value),bindArgs (PySem.W.fnOf n n (Y0 st) (U7 st) (B2 st) .none kV doc pm an cdv ct) ⟨[u0,u1],[]⟩=pure [(x0,u0),(x1,u1)]:=by intros;rfl):Fx K mg n st f d [x0,x1]:=⟨q.F,Dz X G q.a,q.F.binds λ_ _ _ _ _ _ z w=>us2 w λu0 u1=>e _ _ _ _ _ _ u0 u1⟩
theorem Fq.fx3 {K:Frag}{h:Heap}{mg:Str->Option Value}{n x0 x1 x2:Str}{st:Stmt}{f:Addr}{d:FuncData}(q:Fq K n st f d)(X:K.In h)(G:h.Ns mainGlobals mg)(e:∀(kV doc pm:Value) (an:Option Addr) (cdv ct u0 u1 u2:Value),bindArgs (PySem.W.fnOf n n (Y0 st) (U7 st) (B2 st) .none kV doc pm an cdv ct) ⟨[u0,u1,u2],[]⟩=pure [(x0,u0),(x1,u1),(x2,u2)]:=by intros;rfl):Fx K mg n st f d [x0,x1,x2]:=⟨q.F,Dz X G q.a,q.F.binds λ_ _ _ _ _ _ z w=>us3 w λu0 u1 u2=>e _ _ _ _ _ _ u0 u1 u2⟩
theorem Fq.fx4 {K:Frag}{h:Heap}{mg:Str->Option Value}{n x0 x1 x2 x3:Str}{st:Stmt}{f:Addr}{d:FuncData}(q:Fq K n st f d)(X:K.In h)(G:h.Ns mainGlobals mg)(e:∀(kV doc pm:Value) (an:Option Addr) (cdv ct u0 u1 u2 u3:Value),bindArgs (PySem.W.fnOf n n (Y0 st) (U7 st) (B2 st) .none kV doc pm an cdv ct) ⟨[u0,u1,u2,u3],[]⟩=pure [(x0,u0),(x1,u1),(x2,u2),(x3,u3)]:=by intros;rfl):Fx K mg n st f d [x0,x1,x2,x3]:=⟨q.F,Dz X G q.a,q.F.binds λ_ _ _ _ _ _ z w=>us4 w λu0 u1 u2 u3=>e _ _ _ _ _ _ u0 u1 u2 u3⟩
theorem tx_mk {K:Frag}{h:Heap}{mg:Str->Option Value}{f0 f1 f2 f3 f4 f5 f6 f7 f8 f9 f10 f11 f12 f13 f14 f15 f16 f17 f18 f19 f20 f21 f22 f23 f24 f25 f26 f27 f28 f29 f30:Addr}(X:K.In h)(G:h.Ns mainGlobals mg)
  {d0:FuncData} (q0:Fq K "begun_with" j4 f0 d0)
  {d1:FuncData} (q1:Fq K "begun_with_least" P1 f1 d1)
  {d2:FuncData} (q2:Fq K "ways_round" i8 f2 d2)
  {d3:FuncData} (q3:Fq K "ahead_in" aE1 f3 d3)
  {d4:FuncData} (q4:Fq K "round_from" l5 f4 d4)
  {d5:FuncData} (q5:Fq K "all_rounds" m9 f5 d5)
  {d6:FuncData} (q6:Fq K "tied" bQ6 f6 d6)
  {d7:FuncData} (q7:Fq K "left_of" aN4 f7 d7)
  {d8:FuncData} (q8:Fq K "lands" bE4 f8 d8)
  {d9:FuncData} (q9:Fq K "inner_lands" Y9 f9 d9)
  {d10:FuncData} (Q:Fq K "land_left_of" W4 f10 d10)
  {d11:FuncData} (D:Fq K "crossings" y7 f11 d11)
  {d12:FuncData} (B:Fq K "rise" bT2 f12 d12)
  {d13:FuncData} (P:Fq K "heights" aN3 f13 d13)
  {d14:FuncData} (q14:Fq K "_law_cell_at" V2 f14 d14)
  {d15:FuncData} (q15:Fq K "_law_mixed" j6 f15 d15)
  {d16:FuncData} (q16:Fq K "_law_names" o6 f16 d16)
  {d17:FuncData} (q17:Fq K "_law_grown" l4 f17 d17)
  {d18:FuncData} (q18:Fq K "_law_begun" m6 f18 d18)
  {d19:FuncData} (q19:Fq K "_law_built" i7 f19 d19)
  {d20:FuncData} (q20:Fq K "_law_whole" k7 f20 d20)
  {d21:FuncData} (q21:Fq K "_law_arrows" Z3 f21 d21)
  {d22:FuncData} (q22:Fq K "_law_arrow_rings" O8 f22 d22)
  {d23:FuncData} (q23:Fq K "_law_ring_turned" P2 f23 d23)
  {d24:FuncData} (q24:Fq K "_law_moved" l7 f24 d24)
  {d25:FuncData} (q25:Fq K "_law_lands_at_left" M7 f25 d25)
  {d26:FuncData} (q26:Fq K "_law_due_step" U3 f26 d26)
  {d27:FuncData} (q27:Fq K "_law_heights" W3 f27 d27)
  {d28:FuncData} (q28:Fq K "_law_end" aE0 f28 d28)
  {d29:FuncData} (q29:Fq K "_law_heights_right" N1 f29 d29)
  {d30:FuncData} (w:Fq K "law" cP3 f30 d30)
  (z:PySem.W.nsIn K mainGlobals "ValueError" = some none)
  (N:PySem.W.nsIn K mainGlobals "all" = some none)
  (U:PySem.W.nsIn K mainGlobals "bool" = some none)
  (X6:PySem.W.nsIn K mainGlobals "enumerate" = some none)
  (Y:PySem.W.nsIn K mainGlobals "int" = some none)
  (Q6:PySem.W.nsIn K mainGlobals "isinstance" = some none)
  (P9:PySem.W.nsIn K mainGlobals "len" = some none)
  (m:PySem.W.nsIn K mainGlobals "list" = some none)
  (J:PySem.W.nsIn K mainGlobals "min" = some none)
  (L4:PySem.W.nsIn K mainGlobals "range" = some none)
  (j7:PySem.W.nsIn K mainGlobals "reversed" = some none)
  (R:PySem.W.nsIn K mainGlobals "set" = some none)
  (Q2:PySem.W.nsIn K mainGlobals "sorted" = some none)
  (M1:PySem.W.nsIn K mainGlobals "tuple" = some none)
  (M:PySem.W.nsIn K mainGlobals "zip" = some none)
  {c_OUTER_LAND:Addr} (U6:PySem.W.nsIn K mainGlobals "OUTER_LAND" = some (some (.ref c_OUTER_LAND))) {t0_OUTER_LAND t1_OUTER_LAND t2_OUTER_LAND:Tok} {q_OUTER_LAND:Nat} {sl_OUTER_LAND:Array (Option Value)} (e:K.lookup c_OUTER_LAND=some ⟨.type "tuple",none,.seq #[.int 0 t0_OUTER_LAND,.int 2 t1_OUTER_LAND,.int 1 t2_OUTER_LAND] q_OUTER_LAND,sl_OUTER_LAND⟩)
  : ∃a:Ad,Tx K mg a/\a.bX2=f30/\∀(s:Shared) (v:Value),BindsTo s a.bO1 ⟨[v],[]⟩ [("_law_script",v)]:=by
 refine⟨⟨f0,d0,f1,d1,f2,d2,f3,d3,f4,d4,f5,d5,f6,d6,f7,d7,f8,d8,f9,d9,f10,d10,f11,d11,f12,d12,f13,d13,f14,d14,f15,d15,f16,d16,f17,d17,f18,d18,f19,d19,f20,d20,f21,d21,f22,d22,f23,d23,f24,d24,f25,d25,f26,d26,f27,d27,f28,d28,f29,d29,f30,d30⟩,⟨q0.fx2 X G,q1.fx1 X G,q2.fx1 X G,q3.fx2 X G,q4.fx3 X G,q5.fx1 X G,q6.fx3 X G,q7.fx3 X G,q8.fx1 X G,q9.fx1 X G,Q.fx3 X G,D.fx3 X G,B.fx4 X G,P.fx3 X G,q14.fx2 X G,q15.fx2 X G,q16.fx2 X G,q17.fx2 X G,q18.fx1 X G,q19.fx3 X G,q20.fx1 X G,q21.fx1 X G,q22.fx1 X G,q23.fx2 X G,q24.fx2 X G,q25.fx1 X G,q26.fx3 X G,q27.fx3 X G,q28.fx3 X G,q29.fx4 X G,w.fx1 X G,Bb X G z,Bb X G N,Bb X G U,Bb X G X6,Bb X G Y,Bb X G Q6,Bb X G P9,Bb X G m,Bb X G J,Bb X G L4,Bb X G j7,Bb X G R,Bb X G Q2,Bb X G M1,Bb X G M,⟨c_OUTER_LAND,Dz X G U6,λH=>.inr ⟨_,_,_,e,rfl,rfl,rfl,(show 3<=sizeLine by decide),.cons ⟨_,rfl⟩ (.cons ⟨_,rfl⟩ (.cons ⟨_,rfl⟩ (.nil)))⟩⟩⟩,rfl,λs v=>?_⟩
 obtain⟨_,_,_,_,_,_,_,_,_,rfl,_⟩:=w.F.ex;exact .of_eq rfl
theorem C6:C1 ["_law_first", "_law_second", "_law_outs", "_law_ins", "_law_path", "_law_heap", "_law_i", "_law_ahead", "_law_k", "_law_place", "_law_turns", "_law_v", "_law_came", "_law_row"] ["_law_first", "_law_second"] (B2 l4):={}
def rh (m:Nat)(F G:Nat->Nat)(o i:OT)(p h:List Nat)(x6 x7 x8 x9:Sl):List Sl:=
 [.val (lI (fl F m)),.val (lI (fl G m)),.tr o,.tr i,.own (nI p.reverse),.own (nI h.reverse),x6,x7,x8,x9,.no,.no,.no,.no]
theorem Y1 {m:Nat}{F G:Nat->Nat}{o i:OT}{p h:List Nat}{x6 x7 x8 x9:Sl}(e:x6.nb=true)(w:x7.nb=true)(z:x8.nb=true)(s:x9.nb=true):M9 (rh m F G o i p h x6 x7 x8 x9)=true:=by
 unfold rh;simp only[i6,e,w,z,s,Bool.true_and];rfl
def rh2 (m:Nat)(F G:Nat->Nat)(o i:PyData)(p h:List PyData)(x6 x7 x8 x9 x10 x11 x12 x13:Sl):List Sl:=
 [.val (lI (fl F m)),.val (lI (fl G m)),.val o,.val i,.own p,.own h,x6,x7,x8,x9,x10,x11,x12,x13]
theorem bS8 {m:Nat}{F G:Nat->Nat}{o i:PyData}{p h:List PyData}{x6 x7 x8 x9 x10 x11 x12 x13:Sl}(Y:x6.nb=true)(X:x7.nb=true)(U:x8.nb=true)(J:x9.nb=true)(e:x10.nb=true)(w:x11.nb=true)(z:x12.nb=true)(s:x13.nb=true):M9 (rh2 m F G o i p h x6 x7 x8 x9 x10 x11 x12 x13)=true:=by
 unfold rh2;simp only[i6,Y,X,U,J,e,w,z,s,Bool.true_and];rfl
def cQ4 (ds:List PyData)(d:PyData):Prop:=∃F G m,TT.Rws F G m/\m<=1000/\ds=[lI (fl F m),lI (fl G m)] /\
 d=.tuple [.list ((List.range (m+3)).map λv=>lN ((TT.gst F G m).row v)),.list ((List.range m).map λv=>lN [(TT.gst F G m).o0 (v+3),(TT.gst F G m).o1 (v+3),(TT.gst F G m).o2 (v+3)])]
section
variable {P:Program}{w:World}{K:Frag}{mg:Str->Option Value}{base:Heap}{a:Ad}
theorem cH2 (T:Tx K mg a):D2 P w K mg base CX0 1 a.aF7 a.aF5 ["_law_first", "_law_second"] (spV K cQ4):=by
 refine T.aK4.F.ok C6 (X3 λds d ⟨_,_,_,_,_,e,_⟩=>by rw[e];rfl) (λcdv A outer s H vs Q E hr h=>?_)
 obtain⟨ds,S,d,hS,r,⟨F,G,m,R,hm,rfl,rfl⟩,k⟩:=h;refine⟨_,(A3 (psS 2 C6 (C4 A2))
   (A3 (psS 3 C6 (C4 (A0 (D6 (A0 (C4 A2) (A0 (C4 A2) (A0 (C4 A2) A2)))) (A0 (D6 (A0 (C4 A2) (A0 (C4 A2) (A0 (C4 A2) A2)))) (A0 (D6 (A0 (C4 A2) (A0 (C4 A2) (A0 (C4 A2) A2)))) A2)))))
   (A3 (psS 4 C6 (C4 (A0 A4 A2)))
   (A3 (psS 5 C6 (C4 (A0 A4 A2)))
   (A3 (G3 An rfl (G9 rfl T.L4 (A0 (C0 K3 (by rfl) T.P9 Bm (A0 (pv 0) A2)) A2)) (pgN 6 C6) (A3 (psS 7 C6 (C4 (A0 A4 (A0 A4 A2))))
   (A3 (O1 (C3 aS7 (pv 6) A4 (F8 _)) (A8 (psS 7 C6 (C4 (A0 (B1 C2 (pv 0) (B4 N4 (pv 6) A4) (λ_ _=>rfl)) (A0 (B1 C2 (pv 1) (B4 N4 (pv 6) A4) (λ_ _=>rfl)) A2))))) F3)
   (A3 (G3 An rfl (G9 rfl T.L4 (A0 (B4 N4 (B1 C2 (pv 0) (pv 6) (λ_ _=>rfl)) (B1 C2 (pv 7) A4 (λ_ _=>rfl))) A2)) (pgN 8 C6) (A8 (F0 (K9 Ab1 Ah Ag D5 (pv 5) (A0 (aV2 Ab1 PySem.F.slot_list_pop PySem.F.type_list_pop aT3 (pv 4)) A2)))))
   (A3 (F0 (K9 Ab1 Ah Ag D5 (pv 3) (A0 (D6 (A0 (C4 A2) (A0 (C4 A2) (A0 (C4 A2) A2)))) A2)))
   (A3 (G3 An rfl (G9 rfl T.L4 (A0 (B4 N4 (B1 C2 (pv 1) (pv 6) (λ_ _=>rfl)) (B1 C2 (pv 7) A4 (λ_ _=>rfl))) A2)) (pgN 8 C6) (A3 (psS 9 C6 (aV2 Ab1 PySem.F.slot_list_pop PySem.F.type_list_pop aT3 (pv 5)))
   (A3 (aM0 (B4 G4 A4 (pv 6)) (bR0 (B1 C2 (pv 2) (B4 N4 (pv 9) A4) (λ_ _=>rfl)) A4 aY2))
   (A8 (F0 (K9 Ab1 Ah Ag D5 (B1 C2 (B1 C2 (pv 3) (B4 G4 A4 (pv 6)) (λ_ _=>rfl)) A4 (λ_ _=>rfl)) (A0 (pv 9) A2)))))))
   (A3 (F0 (K9 Ab1 Ah Ag D5 (pv 2) (A0 (C4 (A0 (B1 C2 (pv 4) (aO9 w9 A4) (λ_ _=>rfl)) (A0 (B1 C2 (pv 5) (aO9 w9 A4) (λ_ _=>rfl)) (A0 A4 A2)))) A2)))
   (A3 (F0 (K9 Ab1 Ah Ag D5 (B1 C2 (B1 C2 (pv 3) (B1 C2 (pv 4) (aO9 w9 A4) (λ_ _=>rfl)) (λ_ _=>rfl)) A4 (λ_ _=>rfl)) (A0 (B4 G4 A4 (pv 6)) A2)))
   (A3 (F0 (K9 Ab1 Ah Ag D5 (B1 C2 (B1 C2 (pv 3) (B1 C2 (pv 5) (aO9 w9 A4) (λ_ _=>rfl)) (λ_ _=>rfl)) A4 (λ_ _=>rfl)) (A0 (B4 G4 A4 (pv 6)) A2)))
   (A8 (F0 (K9 Ab1 Ah Ag D5 (pv 4) (A0 (B4 G4 A4 (pv 6)) A2)))))))))))))
   (A3 (e5 An (C3 aS7 (C0 K3 (by rfl) T.P9 Bm (A0 (pv 4) A2)) A4 (F8 _)) (A8 (F0 (K9 Ab1 Ah Ag D5 (pv 5) (A0 (aV2 Ab1 PySem.F.slot_list_pop PySem.F.type_list_pop aT3 (pv 4)) A2)))))
   (A3 (e5 An (C3 aS7 (C0 K3 (by rfl) T.P9 Bm (A0 (pv 5) A2)) A4 (F8 _)) (A8 (F0 (K9 Ab1 Ah Ag D5 (B1 C2 (B1 C2 (pv 3) A4 (λ_ _=>rfl)) A4 (λ_ _=>rfl)) (A0 (aV2 Ab1 PySem.F.slot_list_pop PySem.F.type_list_pop aT3 (pv 5)) A2)))))
   (A3 (psS 10 C6 (C4 (A0 (B4 (M5 K) (B4 (M5 K) (C4 (A0 A4 A2)) (B1 C2 (B1 C2 (pv 3) A4 (λ_ _=>rfl)) A4 (λ_ _=>rfl))) (C4 (A0 A4 A2))) A2)))
   (A3 (F0 (K9 Ab1 Ah Ag D5 (pv 10) (A0 (B4 (M5 K) (B4 (M5 K) (C4 (A0 A4 A2)) (aT5 K rfl (by rfl) T.aM5 (by rfl) T.j7 (B1 C2 (B1 C2 (pv 3) A4 (λ_ _=>rfl)) A4 (λ_ _=>rfl)))) (C4 (A0 A4 A2))) A2)))
   (A3 (F0 (K9 Ab1 Ah Ag D5 (pv 10) (A0 (B4 (M5 K) (B4 (M5 K) (C4 (A0 A4 A2)) (B1 C2 (B1 C2 (pv 3) A4 (λ_ _=>rfl)) A4 (λ_ _=>rfl))) (C4 (A0 A4 A2))) A2)))
   (A3 (G3 An rfl (G9 rfl T.L4 (A0 (C0 K3 (by rfl) T.P9 Bm (A0 (pv 2) A2)) A2)) (pgN 11 C6) (A3 (psS 12 C6 (B1 C2 (pv 3) (B4 G4 A4 (pv 11)) (λ_ _=>rfl)))
   (A3 (psS 13 C6 (B4 (M5 K) (B4 (M5 K) (B4 (M5 K) (C4 (A0 (B1 C2 (B1 C2 (pv 2) (pv 11) (λ_ _=>rfl)) A4 (λ_ _=>rfl)) A2)) (B1 C2 (pv 12) A4 (λ_ _=>rfl))) (C4 (A0 (B1 C2 (B1 C2 (pv 2) (pv 11) (λ_ _=>rfl)) A4 (λ_ _=>rfl)) A2))) (B1 C2 (pv 12) A4 (λ_ _=>rfl))))
   (A8 (F0 (K9 Ab1 Ah Ag D5 (pv 10) (A0 (B4 (M5 K) (B4 (M5 K) (pv 13) (C4 (A0 (B1 C2 (B1 C2 (pv 2) (pv 11) (λ_ _=>rfl)) A4 (λ_ _=>rfl)) A2))) (aT5 K rfl (by rfl) T.aM5 (by rfl) T.j7 (B1 C2 (pv 12) A4 (λ_ _=>rfl)))) A2)))))))
   (A8 (D0 (D6 (A0 (pv 10) (A0 (pv 2) A2)))))))))))))))),K8 hS r ?_ k⟩
 refine A9 (aE8 (L9 G6) ?_);refine A9 (aE8 (L9 (F4 (aP9 (F4 (L9 G6) (F4 (L9 G6) (F4 (L9 G6) G6)))) (F4 (aP9 (F4 (L9 G6) (F4 (L9 G6) (F4 (L9 G6) G6)))) (F4 (aP9 (F4 (L9 G6) (F4 (L9 G6) (F4 (L9 G6) G6)))) G6)))) ?_);refine A9 (F9 (E9 (A1 A7 A5)) ?_);refine A9 (F9 (E9 (A1 A7 A5)) ?_);show W K _ (rh m F G (L7 0 (TT.gst F G 0).o0 (TT.gst F G 0).o1 (TT.gst F G 0).o2) (F2 (0+3) (TT.gst F G 0).i0 (TT.gst F G 0).i1 (TT.gst F G 0).i2) (TT.gst F G 0).path (TT.gst F G 0).heap .no .no .no .no) _;have B:((fl F m).map PyData.int).length=m:=by simp[fl]
 refine A9 (N0 (R9 (A1 (S8 (A1 (A6 rfl) A5)) A5) ?_ ?_) (λi ρ=>∃U J x8 Y,(U.nb=true/\J.nb=true/\x8.nb=true/\Y.nb=true) /\
  ρ=rh m F G (L7 i (TT.gst F G i).o0 (TT.gst F G i).o1 (TT.gst F G i).o2) (F2 (i+3) (TT.gst F G i).i0 (TT.gst F G i).i1 (TT.gst F G i).i2) (TT.gst F G i).path (TT.gst F G i).heap U J x8 Y) ⟨_,_,_,_,⟨rfl,rfl,rfl,rfl⟩,rfl⟩ ?_ ?_)
 .rw[B];lia
 .rw[B];lia
 .rintro i d _ N ⟨U,J,x8,Y,⟨b6,b7,b8,M⟩,rfl⟩;obtain⟨rfl,hi⟩:=S3 N;have hi:i<m:=by
   have:=hi
   simp[fl]at this
   lia
  obtain⟨sk,sa,sb,spl,shl,slo,spx,shy,se0,se1⟩:=TT.bH4 R hi;have hst:TT.gst F G (i+1)=(TT.gst F G i).step (F i-TT.pv F i) (G i-TT.pv G i):=rfl;have f1:=R.f1 i hi;have g1:=R.g1 i hi;have hFi:=R.f2 i hi;have hGi:=R.g2 i hi;generalize hs:TT.gst F G i=s at sk sa sb spl shl slo spx shy se0 se1 hst ⊢;refine⟨_,B7,?_⟩;refine A9 (F9 (E9 (A1 A7 (A1 A7 A5))) ?_ (show 7<14 by decide))
  refine A9 (cO3 (rh m F G (L7 i s.o0 s.o1 s.o2) (F2 (i+3) s.i0 s.i1 s.i2) s.path s.heap (.val (.int (i:Int))) (.own [.int (TT.pv F i:Nat),.int (TT.pv G i:Nat)]) x8 Y) (C5 (aX3 (A6 rfl) A7))
   (λh=>(F9 (ds:=[.int (F (i-1):Nat),.int (G (i-1):Nat)]) (E9 (A1 (D9 (A6 rfl) (K5 (A6 rfl) A7) rfl ?_) (A1 (D9 (A6 rfl) (K5 (A6 rfl) A7) rfl ?_) A5))) ?_ (show 7<14 by decide))) (λh=>J5 ?_) ?_)
  .have h:(i:Int)>0:=Ax h
   have e:(i:Int)-1=((i-1:Nat):Int):=by lia
   rw[e];exact bX4 (by lia)
  .have h:(i:Int)>0:=Ax h
   have e:(i:Int)-1=((i-1:Nat):Int):=by lia
   rw[e];exact bX4 (by lia)
  .have h:(i:Int)>0:=Ax h
   obtain⟨j,rfl⟩:∃j,i=j+1:=⟨i-1,by lia⟩
   rfl
  .have h:¬(i:Int)>0:=Bu h
   have:i=0:=by lia
   subst this;rfl
  generalize hA:F i-TT.pv F i=na at sa sb shl slo spx shy hst;generalize hB:G i-TT.pv G i=nb at sb slo shy hst;refine A9 (N0 (R9 (A1 (K5 (D9 (A6 rfl) (A6 rfl) rfl (bX4 hi)) (D9 (K0 rfl) A7 rfl rfl)) A5) ?_ ?_) (λj ρ=>∃x8,x8.nb=true /\
   ρ=rh m F G (L7 i s.o0 s.o1 s.o2) (F2 (i+3) s.i0 s.i1 s.i2) (s.path.drop j) (s.h1 j) (.val (.int (i:Int))) (.own [.int (TT.pv F i:Nat),.int (TT.pv G i:Nat)]) x8 Y) ⟨x8,b8,rfl⟩ ?_ ?_)
  .lia
  .lia
  .rintro j d _ N ⟨y8,c8,rfl⟩;obtain⟨rfl,D⟩:=S3 N;have D:j<na:=by lia
   refine⟨_,B7,?_⟩;obtain⟨x,hx⟩:∃x,s.path[j]? = some x:=⟨_,Aa2 (by lia)⟩
   have e1:s.path.drop j=x::s.path.drop (j+1):=by
    obtain⟨h1,h2⟩:=Ab0.mp hx;rw[<- h2];exact Cv h1
   have e2:s.h1 (j+1)=x::s.h1 j:=by
    unfold TT.S.h1;obtain⟨h1,h2⟩:=Ab0.mp hx;rw[Br h1,h2];simp
   show W K _ (rh m F G (L7 i s.o0 s.o1 s.o2) (F2 (i+3) s.i0 s.i1 s.i2) (s.path.drop j) (s.h1 j) (.val (.int (i:Int))) (.own [.int (TT.pv F i:Nat),.int (TT.pv G i:Nat)]) (.val (.int (j:Int))) Y) _
   refine aN7 (ds:=nI (s.h1 j).reverse) (bE5 (d:=.int (x:Int)) (ds:=nI (s.path.drop (j+1)).reverse) ?_ (Y1 rfl rfl rfl M)) rfl rfl ?_ ⟨.val (.int (j:Int)),rfl,?_⟩ ?_
   .show some (Sl.own (nI (s.path.drop j).reverse))=_
    rw[e1];simp[nI]
   .rw[E5,Ae1];unfold TT.S.h1 at shl ⊢;unfold PySem.sizeLine;simp only[Ab7,Ae1,Ad1]at shl ⊢
    lia
   .rw[e2];unfold rh
    simp[nI]
   .exact Y1 (p:=s.path.drop (j+1)) (h:=s.h1 j) rfl rfl rfl M
  rintro _ ⟨y8,c8,rfl⟩;rw[N7];have ea:((F i:Int)-(TT.pv F i:Int)).toNat=na:=by lia
  rw[ea];refine A9 (e6 (u0:=F2 (i+3) s.i0 s.i1 s.i2) aF1 rfl rfl (aP9 (F4 (L9 G6) (F4 (L9 G6) (F4 (L9 G6) G6)))) ?_ ?_ (Y1 rfl rfl c8 M))
  .rw[Aa3,Bs];unfold PySem.sizeLine;lia
  have ei:(F2 (i+3) s.i0 s.i1 s.i2).put [] (.lst (((List.range (i+3)).map λq=>OT.tup [oN (s.i0 q),oN (s.i1 q),oN (s.i2 q)])++[.tup [.lst [],.lst [],.lst []]]))=F2 (i+4) s.i0 s.i1 (TT.put s.i2 (i+3) []):=by
   rw[OT.put_nil,cZ8]
   congr 1
   .funext q;by_cases e:q=i+3
    .rw[e,TT.B5,se0]
    .rw[TT.B6 e]
   .funext q;by_cases e:q=i+3
    .rw[e,TT.B5,se1]
    .rw[TT.B6 e]
  show W K _ ((rh m F G (L7 i s.o0 s.o1 s.o2) (F2 (i+3) s.i0 s.i1 s.i2) (s.path.drop na) (s.h1 na) (.val (.int (i:Int))) (.own [.int (TT.pv F i:Nat),.int (TT.pv G i:Nat)]) y8 Y).set 3 (.tr ((F2 (i+3) s.i0 s.i1 s.i2).put [] (.lst (((List.range (i+3)).map λq=>OT.tup [oN (s.i0 q),oN (s.i1 q),oN (s.i2 q)])++[.tup [.lst [],.lst [],.lst []]]))))) _
  rw[ei];show W K _ (rh m F G (L7 i s.o0 s.o1 s.o2) (F2 (i+4) s.i0 s.i1 (TT.put s.i2 (i+3) [])) (s.path.drop na) (s.h1 na) (.val (.int (i:Int))) (.own [.int (TT.pv F i:Nat),.int (TT.pv G i:Nat)]) y8 Y) _;generalize hh:s.h1 na=h at sb shl slo shy ⊢;refine A9 (N0 (R9 (A1 (K5 (D9 (A6 rfl) (A6 rfl) rfl (bX4 hi)) (D9 (K0 rfl) A7 rfl rfl)) A5) ?_ ?_) (λj ρ=>∃x8 Y,x8.nb=true/\Y.nb=true /\
   ρ=rh m F G (L7 i s.o0 s.o1 (λq=>if q∈h.take j then i+3 else s.o2 q)) (F2 (i+4) s.i0 s.i1 (TT.put s.i2 (i+3) (h.take j))) (s.path.drop na) (h.drop j) (.val (.int (i:Int))) (.own [.int (TT.pv F i:Nat),.int (TT.pv G i:Nat)]) x8 Y) ⟨y8,Y,c8,M,by simp⟩ ?_ ?_)
  .lia
  .lia
  .rintro j d _ N ⟨z8,z9,c8,c9,rfl⟩;obtain⟨rfl,D⟩:=S3 N;have D:j<nb:=by lia
   refine⟨_,B7,?_⟩;obtain⟨x,hx⟩:∃x,h[j]? = some x:=⟨_,Aa2 (by lia)⟩
   obtain⟨hx1,hx2⟩:=Ab0.mp hx;have e1:h.drop j=x::h.drop (j+1):=by rw[<- hx2];exact Cv hx1
   have e2:h.take (j+1)=h.take j++[x]:=by rw[<- hx2];exact Br hx1
   obtain⟨x3,xi⟩:=slo x (by
    refine Aw (i:=j) ?_;rw[List.getElem?_take,Ae D];exact hx)
   refine A9 (dR1 (ds:=nI (h.drop (j+1)).reverse) (d:=.int (x:Int)) ?_ ?_ (Y1 (x8:=.val (.int (j:Int))) rfl rfl rfl c9))
   .show some (Sl.own (nI (h.drop j).reverse))=_
    rw[e1];simp[nI]
   have e3:(3:Int)+(i:Int)=((i+3:Nat):Int):=by lia
   have hx3:x-3+3=x:=by lia
   show W K _ (rh m F G (L7 i s.o0 s.o1 (λq=>if q∈h.take j then i+3 else s.o2 q)) (F2 (i+4) s.i0 s.i1 (TT.put s.i2 (i+3) (h.take j))) (s.path.drop na) (h.drop (j+1)) (.val (.int (i:Int))) (.own [.int (TT.pv F i:Nat),.int (TT.pv G i:Nat)]) (.val (.int (j:Int))) (.val (.int (x:Int)))) _
   have eo:(L7 i s.o0 s.o1 (λq=>if q∈h.take j then i+3 else s.o2 q)).put [x-3] (oN [s.o0 (x-3+3),s.o1 (x-3+3),i+3])=L7 i s.o0 s.o1 (λq=>if q∈h.take (j+1) then i+3 else s.o2 q):=by
    rw[cW1 (by lia)]
    congr 1
    funext q
    rw[hx3,e2];by_cases e:q=x
    .rw[e,TT.B5];simp
    .rw[TT.B6 e];simp[e]
   refine A9 (dJ6 (u0:=L7 i s.o0 s.o1 (λq=>if q∈h.take j then i+3 else s.o2 q)) (us:=[.leaf (.int (s.o0 (x-3+3):Nat)),.leaf (.int (s.o1 (x-3+3):Nat)),.leaf (.int ((if x-3+3∈h.take j then i+3 else s.o2 (x-3+3):Nat):Int))]) (π:=[]++[x-3]) 2 (K5 A7 (A6 rfl)) (aK2 (x-3) aF1 (K5 (A6 rfl) A7) (by lia) (λu _=>⟨u,rfl⟩)) A7 rfl (by decide:2<3) rfl (dF9 (by lia)) ?_ (Y1 rfl rfl rfl rfl))
   show W K _ ((rh m F G (L7 i s.o0 s.o1 (λq=>if q∈h.take j then i+3 else s.o2 q)) (F2 (i+4) s.i0 s.i1 (TT.put s.i2 (i+3) (h.take j))) (s.path.drop na) (h.drop (j+1)) (.val (.int (i:Int))) (.own [.int (TT.pv F i:Nat),.int (TT.pv G i:Nat)]) (.val (.int (j:Int))) (.val (.int (x:Int)))).set 2
    (.tr ((L7 i s.o0 s.o1 (λq=>if q∈h.take j then i+3 else s.o2 q)).put [x-3] (.lst [.leaf (.int (s.o0 (x-3+3):Nat)),.leaf (.int (s.o1 (x-3+3):Nat)),.leaf (.int (3+(i:Int)))])))) _
   rw[e3];show W K _ ((rh m F G (L7 i s.o0 s.o1 (λq=>if q∈h.take j then i+3 else s.o2 q)) (F2 (i+4) s.i0 s.i1 (TT.put s.i2 (i+3) (h.take j))) (s.path.drop na) (h.drop (j+1)) (.val (.int (i:Int))) (.own [.int (TT.pv F i:Nat),.int (TT.pv G i:Nat)]) (.val (.int (j:Int))) (.val (.int (x:Int)))).set 2
    (.tr ((L7 i s.o0 s.o1 (λq=>if q∈h.take j then i+3 else s.o2 q)).put [x-3] (oN [s.o0 (x-3+3),s.o1 (x-3+3),i+3])))) _
   rw[eo];show W K _ (rh m F G (L7 i s.o0 s.o1 (λq=>if q∈h.take (j+1) then i+3 else s.o2 q)) (F2 (i+4) s.i0 s.i1 (TT.put s.i2 (i+3) (h.take j))) (s.path.drop na) (h.drop (j+1)) (.val (.int (i:Int))) (.own [.int (TT.pv F i:Nat),.int (TT.pv G i:Nat)]) (.val (.int (j:Int))) (.val (.int (x:Int)))) _
   refine e6 (u0:=F2 (i+4) s.i0 s.i1 (TT.put s.i2 (i+3) (h.take j))) (π:=[]++[i+3]++[2]) (aK2 2 (aK2 (i+3) aF1 (K5 A7 (A6 rfl)) (by lia) (λu _=>⟨u,rfl⟩)) A7 rfl (λu0 h=>by cases h;exact⟨_,aE9 (by lia)⟩)) rfl (cC8 (by lia)) (bC6 (A6 rfl)) ?_ ?_ (Y1 rfl rfl rfl rfl)
   .rw[Aa3,TT.B5,Ad1];unfold PySem.sizeLine;lia
   refine⟨.val (.int (j:Int)),.val (.int (x:Int)),rfl,rfl,?_⟩;rw[bO9 (by lia),bY4,TT.B5,<- e2]
   rfl
  rintro _ ⟨z8,z9,c8,c9,rfl⟩;rw[N7];have eb:((G i:Int)-(TT.pv G i:Int)).toNat=nb:=by lia
  rw[eb];obtain⟨x,r1,ex,xlt,xlen⟩:=spx;obtain⟨y,r2,ey,ylt,ylen⟩:=shy;have e3:(3:Int)+(i:Int)=((i+3:Nat):Int):=by lia
  have hpl:atI (nI (s.path.drop na).reverse) (-1)=some (.int (x:Int)):=by rw[ex,List.reverse_cons,aF2];exact aH5
  have hhl:atI (nI (h.drop nb).reverse) (-1)=some (.int (y:Int)):=by rw[ey,List.reverse_cons,aF2];exact aH5
  refine A9 (e6 (u0:=L7 i s.o0 s.o1 (λq=>if q∈h.take nb then i+3 else s.o2 q)) aF1 rfl rfl (L9 (F4 (bC6 (LV.E.imm (d:=.int (x:Int)) (D9 (K0 rfl) (aO6 A7) rfl hpl))) (F4 (bC6 (LV.E.imm (d:=.int (y:Int)) (D9 (K0 rfl) (aO6 A7) rfl hhl))) (F4 (bC6 A7) G6)))) ?_ ?_ (Y1 rfl rfl c8 c9))
  .rw[Aa3,Bs];unfold PySem.sizeLine;lia
  have eo:(L7 i s.o0 s.o1 (λq=>if q∈h.take nb then i+3 else s.o2 q)).put [] (.lst (((List.range i).map λj=>oN [s.o0 (j+3),s.o1 (j+3),(λq=>if q∈h.take nb then i+3 else s.o2 q) (j+3)])++[.lst [.leaf (.int (x:Int)),.leaf (.int (y:Int)),.leaf (.int ((2:Nat):Int))]]))=L7 (i+1) (TT.put s.o0 (i+3) x) (TT.put s.o1 (i+3) y) (TT.put (λq=>if q∈h.take nb then i+3 else s.o2 q) (i+3) 2):=by rw[OT.put_nil];exact cV5 (k:=i) (o0:=s.o0) (o1:=s.o1) (o2:=λq=>if q∈h.take nb then i+3 else s.o2 q) x y 2
  show W K _ ((rh m F G (L7 i s.o0 s.o1 (λq=>if q∈h.take nb then i+3 else s.o2 q)) (F2 (i+4) s.i0 s.i1 (TT.put s.i2 (i+3) (h.take nb))) (s.path.drop na) (h.drop nb) (.val (.int (i:Int))) (.own [.int (TT.pv F i:Nat),.int (TT.pv G i:Nat)]) z8 z9).set 2 (.tr ((L7 i s.o0 s.o1 (λq=>if q∈h.take nb then i+3 else s.o2 q)).put [] (.lst (((List.range i).map λj=>oN [s.o0 (j+3),s.o1 (j+3),(λq=>if q∈h.take nb then i+3 else s.o2 q) (j+3)])++[.lst [.leaf (.int (x:Int)),.leaf (.int (y:Int)),.leaf (.int ((2:Nat):Int))]]))))) _
  rw[eo];show W K _ (rh m F G (L7 (i+1) (TT.put s.o0 (i+3) x) (TT.put s.o1 (i+3) y) (TT.put (λq=>if q∈h.take nb then i+3 else s.o2 q) (i+3) 2)) (F2 (i+4) s.i0 s.i1 (TT.put s.i2 (i+3) (h.take nb))) (s.path.drop na) (h.drop nb) (.val (.int (i:Int))) (.own [.int (TT.pv F i:Nat),.int (TT.pv G i:Nat)]) z8 z9) _
  refine A9 (e6 (u0:=F2 (i+4) s.i0 s.i1 (TT.put s.i2 (i+3) (h.take nb))) (π:=[]++[x]++[0]) (aK2 0 (aK2 x aF1 (D9 (K0 rfl) (aO6 A7) rfl hpl) rfl (λu _=>⟨u,rfl⟩)) A7 rfl (λu0 h=>by cases h;exact⟨_,aE9 (by lia)⟩)) rfl (cW8 (by lia)) (bC6 (K5 A7 (A6 rfl))) ?_ ?_ (Y1 rfl rfl c8 c9))
  .rw[Aa3];unfold PySem.sizeLine;lia
  have ej:=cL1 (n:=i+4) (q:=x) (i0:=s.i0) (i1:=s.i1) (i2:=TT.put s.i2 (i+3) (h.take nb)) (by lia) (i+3)
  rw[<- e3]at ej;show W K _ ((rh m F G (L7 (i+1) (TT.put s.o0 (i+3) x) (TT.put s.o1 (i+3) y) (TT.put (λq=>if q∈h.take nb then i+3 else s.o2 q) (i+3) 2)) (F2 (i+4) s.i0 s.i1 (TT.put s.i2 (i+3) (h.take nb))) (s.path.drop na) (h.drop nb) (.val (.int (i:Int))) (.own [.int (TT.pv F i:Nat),.int (TT.pv G i:Nat)]) z8 z9).set 3 (.tr ((F2 (i+4) s.i0 s.i1 (TT.put s.i2 (i+3) (h.take nb))).put ([]++[x]++[0]) (.lst (((s.i0 x).map λ(x:Nat)=>OT.leaf (.int (x:Int)))++[.leaf (.int (3+(i:Int)))]))))) _
  rw[ej];show W K _ (rh m F G (L7 (i+1) (TT.put s.o0 (i+3) x) (TT.put s.o1 (i+3) y) (TT.put (λq=>if q∈h.take nb then i+3 else s.o2 q) (i+3) 2)) (F2 (i+4) (TT.put s.i0 x (s.i0 x++[i+3])) s.i1 (TT.put s.i2 (i+3) (h.take nb))) (s.path.drop na) (h.drop nb) (.val (.int (i:Int))) (.own [.int (TT.pv F i:Nat),.int (TT.pv G i:Nat)]) z8 z9) _
  refine A9 (e6 (u0:=F2 (i+4) (TT.put s.i0 x (s.i0 x++[i+3])) s.i1 (TT.put s.i2 (i+3) (h.take nb))) (π:=[]++[y]++[1]) (aK2 1 (aK2 y aF1 (D9 (K0 rfl) (aO6 A7) rfl hhl) rfl (λu _=>⟨u,rfl⟩)) A7 rfl (λu0 h=>by cases h;exact⟨_,aE9 (by lia)⟩)) rfl (dA2 (by lia)) (bC6 (K5 A7 (A6 rfl))) ?_ ?_ (Y1 rfl rfl c8 c9))
  .rw[Aa3];unfold PySem.sizeLine;lia
  have ek:=cS5 (n:=i+4) (q:=y) (i0:=TT.put s.i0 x (s.i0 x++[i+3])) (i1:=s.i1) (i2:=TT.put s.i2 (i+3) (h.take nb)) (by lia) (i+3)
  rw[<- e3]at ek;show W K _ ((rh m F G (L7 (i+1) (TT.put s.o0 (i+3) x) (TT.put s.o1 (i+3) y) (TT.put (λq=>if q∈h.take nb then i+3 else s.o2 q) (i+3) 2)) (F2 (i+4) (TT.put s.i0 x (s.i0 x++[i+3])) s.i1 (TT.put s.i2 (i+3) (h.take nb))) (s.path.drop na) (h.drop nb) (.val (.int (i:Int))) (.own [.int (TT.pv F i:Nat),.int (TT.pv G i:Nat)]) z8 z9).set 3 (.tr ((F2 (i+4) (TT.put s.i0 x (s.i0 x++[i+3])) s.i1 (TT.put s.i2 (i+3) (h.take nb))).put ([]++[y]++[1]) (.lst (((s.i1 y).map λ(x:Nat)=>OT.leaf (.int (x:Int)))++[.leaf (.int (3+(i:Int)))]))))) _
  rw[ek];show W K _ (rh m F G (L7 (i+1) (TT.put s.o0 (i+3) x) (TT.put s.o1 (i+3) y) (TT.put (λq=>if q∈h.take nb then i+3 else s.o2 q) (i+3) 2)) (F2 (i+4) (TT.put s.i0 x (s.i0 x++[i+3])) (TT.put s.i1 y (s.i1 y++[i+3])) (TT.put s.i2 (i+3) (h.take nb))) (s.path.drop na) (h.drop nb) (.val (.int (i:Int))) (.own [.int (TT.pv F i:Nat),.int (TT.pv G i:Nat)]) z8 z9) _
  refine K2 (ds:=nI (s.path.drop na).reverse) rfl (K5 A7 (A6 rfl)) ?_ ⟨.val (.int (i:Int)),.own [.int (TT.pv F i:Nat),.int (TT.pv G i:Nat)],z8,z9,⟨rfl,rfl,c8,c9⟩,?_⟩ (Y1 rfl rfl c8 c9)
  .rw[E5,Ae1,Cg];unfold PySem.sizeLine;lia
  rw[hst];simp only[TT.S.step,sk,hh,ex,ey,Cc];rw[e3];unfold rh
  simp[nI]
  rfl
 .rintro _ ⟨U,J,x8,Y,⟨b6,b7,b8,M⟩,rfl⟩;have em:(Z6 0 (((fl F m).map PyData.int).length:Int).toNat).length=m:=by rw[N7,B];lia
  rw[em];have GI:=TT.N9 R m (Aa7 _);have Lm:=TT.row_len GI.inv;have I2:=TT.cP1 R m (Aa7 _);have pl:=GI.p;have hl:=GI.h;have gk:=GI.k;have gle:=GI.le;have gle2:=GI.le2;obtain⟨p,hp⟩:=GI.inv.pe;obtain⟨h,hh⟩:=GI.inv.he;have R2:=dA8 hp hh;have R0:=TT.aF8 (s:=TT.gst F G m);have R1:=TT.aU6 (s:=TT.gst F G m);have RI:∀q,3<=q->q<m+3->(TT.gst F G m).row q=_:=λq h1 h2=>TT.N5 h1 (by rw[gk];exact h2)
  generalize hs:TT.gst F G m=s at Lm I2 pl hl gk hp hh R2 R0 R1 RI k ⊢;rw[gk]at Lm;refine A9 (aB0 (λk ρ=>∃j,j+k+1=s.path.length/\ρ=rh m F G (L7 m s.o0 s.o1 s.o2) (F2 (m+3) s.i0 s.i1 s.i2) (s.path.drop j) (s.h1 j) U J x8 Y) ⟨s.path.length-1,0,by rw[hp];simp,rfl⟩ ?_)
  rintro k0 _ ⟨j,D,rfl⟩;refine⟨_,C5 (aX3 (S8 (A1 (K0 rfl) A5)) A7),?_⟩;have el:(nI (s.path.drop j).reverse).length=k0+1:=by rw[E5,Ae1,Cg];lia
  rw[el];by_cases hk:k0=0
  .subst hk;rw[Ac (by simp)]
   have ej:s.path.drop j=[0]:=by
    rw[hp,Ab7]at D;rw[hp,List.drop_append,List.drop_of_length_le (by simp at D;lia)]
    have:j-p.length=0:=by simp at D;lia
    rw[this];rfl
   have eh:s.h1 j=(p.reverse++h)++[1]:=by
    unfold TT.S.h1;rw[hp,Ab7]at D;rw[hp,hh,Dn (by simp at D;lia),Dq (by simp at D;lia)]
    simp
   rw[ej,eh];generalize hq:p.reverse++h=q at R2;have ql:q.length<=3000:=by
    have:=Lm 2
    rw[R2]at this;simp at this;lia
   have ei:s.i2=TT.put s.i2 2 (q.take 0):=by
    funext z;by_cases e:z=2
    .rw[e,TT.B5,I2];rfl
    .rw[TT.B6 e]
   rw[ei];refine A9 (aB0 (λk ρ=>∃j,j+k=q.length/\ρ=rh m F G (L7 m s.o0 s.o1 s.o2) (F2 (m+3) s.i0 s.i1 (TT.put s.i2 2 (q.take j))) [0] ((q++[1]).drop j) U J x8 Y) ⟨q.length,0,by lia,rfl⟩ ?_)
   rintro k1 _ ⟨X,hj1,rfl⟩;refine⟨_,C5 (aX3 (S8 (A1 (K0 rfl) A5)) A7),?_⟩;have el:(nI ((q++[1]).drop X).reverse).length=k1+1:=by rw[E5,Ae1,Cg];simp;lia
   rw[el];by_cases hk:k1=0
   .subst hk;rw[Ac (by simp)]
    have ej1:X=q.length:=by lia
    subst ej1;rw[Cf];refine aM4 (i:=3) rfl (aM4 (i:=2) rfl ?_);rw[cE7,cE8];show W K _ (rh2 m F G (.list ((List.range m).map λj=>lN [s.o0 (j+3),s.o1 (j+3),s.o2 (j+3)])) (.list ((List.range (m+3)).map λz=>.tuple [lN (s.i0 z),lN (s.i1 z),lN (TT.put s.i2 2 q z)])) (nI ([0]:List Nat).reverse) (nI ((q++[1]).drop q.length).reverse) U J x8 Y .no .no .no .no) _
    generalize hiD:(PyData.list ((List.range (m+3)).map λz=>.tuple [lN (s.i0 z),lN (s.i1 z),lN (TT.put s.i2 2 q z)]))=iD
    generalize hoD:(PyData.list ((List.range m).map λj=>lN [s.o0 (j+3),s.o1 (j+3),s.o2 (j+3)]))=oD
    generalize hpD:nI ([0]:List Nat).reverse=pD;generalize hhD:nI ((q++[1]).drop q.length).reverse=hD;show W K _ (rh2 m F G oD iD pD hD U J x8 Y .no .no .no .no) _;have sqi:sq iD=some ((List.range (m+3)).map λz=>.tuple [lN (s.i0 z),lN (s.i1 z),lN (TT.put s.i2 2 q z)]):=by rw[<- hiD];rfl
    have sqo:sq oD=some ((List.range m).map λj=>lN [s.o0 (j+3),s.o1 (j+3),s.o2 (j+3)]):=by rw[<- hoD];rfl
    have L0:=Lm 0
    have L1:=Lm 1
    have L2':=Lm 2
    rw[R0]at L0;rw[R1]at L1;rw[R2]at L2';simp only[Ar,Ab7,Ae1,List.length_nil]at L0 L1 L2';refine A9 (F9 (ds:=[lN (s.row 0)]) (E9 (A1 (EF.toN (Q3 (l:=[1]++s.i0 0) (l':=[2]) (EF.e' (Q3 (l:=[1]) (l':=s.i0 0) (EF.e' (E9 (A1 A7 A5))) (D9 (D9 (A6 rfl) A7 sqi (aG3 (q:=0) (by lia))) A7 rfl rfl) (by simp;lia))) (EF.e' (E9 (A1 A7 A5))) (by simp;lia)) (by rw[R0];simp)) A5)) ?_ (show 10<14 by decide))
    show W K _ (rh2 m F G oD iD pD hD U J x8 Y (.own [lN (s.row 0)]) .no .no .no) _
    refine A9 (K2 (d:=lN (s.row 1)) rfl (EF.toN (Q3 (l:=[2]++(s.i1 1).reverse) (l':=[0]) (EF.e' (Q3 (l:=[2]) (l':=(s.i1 1).reverse) (EF.e' (E9 (A1 A7 A5))) (EF.e' (bV4 (D9 (D9 (A6 rfl) A7 sqi (aG3 (q:=1) (by lia))) A7 rfl rfl))) (by simp;lia))) (EF.e' (E9 (A1 A7 A5))) (by simp;lia)) (by rw[R1];simp)) (by show 1<_;unfold PySem.sizeLine;lia) ?_ (bS8 b6 b7 b8 M rfl rfl rfl rfl))
    show W K _ (rh2 m F G oD iD pD hD U J x8 Y (.own [lN (s.row 0),lN (s.row 1)]) .no .no .no) _
    refine A9 (K2 (d:=lN (s.row 2)) rfl (EF.toN (Q3 (l:=[0]++TT.put s.i2 2 q 2) (l':=[1]) (EF.e' (Q3 (l:=[0]) (l':=TT.put s.i2 2 q 2) (EF.e' (E9 (A1 A7 A5))) (D9 (D9 (A6 rfl) A7 sqi (aG3 (q:=2) (by lia))) A7 rfl rfl) (by rw[TT.B5];simp;lia))) (EF.e' (E9 (A1 A7 A5))) (by rw[TT.B5];simp;lia)) (by rw[R2,TT.B5];simp)) (by show 2<_;unfold PySem.sizeLine;lia) ?_ (bS8 b6 b7 b8 M rfl rfl rfl rfl))
    show W K _ (rh2 m F G oD iD pD hD U J x8 Y (.own ((List.range (0+3)).map λz=>lN (s.row z))) .no .no .no) _
    refine A9 (N0 (R9 (A1 (S8 (A1 (A6 rfl) A5) sqo) A5) ?_ ?_) (λv ρ=>∃x11 x12 x13,(x11.nb=true/\x12.nb=true/\x13.nb=true)/\ρ=rh2 m F G oD iD pD hD U J x8 Y (.own ((List.range (v+3)).map λz=>lN (s.row z))) x11 x12 x13) ⟨.no,.no,.no,⟨rfl,rfl,rfl⟩,rfl⟩ ?_ ?_)
    .simp <;> lia
    .simp <;> lia
    .rintro v d _ N ⟨x11,x12,x13,⟨b11,b12,b13⟩,rfl⟩;obtain⟨rfl,hv⟩:=S3 N;have hv:v<m:=by simpa using hv
     have e3:(3:Int)+(v:Int)=((v+3:Nat):Int):=by lia
     have i2v:TT.put s.i2 2 q (v+3)=s.i2 (v+3):=TT.B6 (by lia)
     have Rv:=RI (v+3) (by lia) (by lia)
     have Lv:=Lm (v+3)
     rw[Rv]at Lv;simp only[Ar,Ab7,Ae1]at Lv;refine⟨_,B7,?_⟩;refine A9 (E7 (d:=.tuple [lN (s.i0 (v+3)),lN (s.i1 (v+3)),lN (s.i2 (v+3))]) (D9 (A6 rfl) (K5 A7 (A6 rfl)) sqi ?_) ?_)
     .rw[e3,aG3 (by lia),i2v]
     show W K _ (rh2 m F G oD iD pD hD U J x8 Y (.own ((List.range (v+3)).map λz=>lN (s.row z))) (.val (.int (v:Int))) (.val (.tuple [lN (s.i0 (v+3)),lN (s.i1 (v+3)),lN (s.i2 (v+3))])) x13) _
     refine A9 (F9 (ds:=nI ([s.o0 (v+3)]++s.i2 (v+3)++[s.o1 (v+3)]++s.i0 (v+3))) (Q3 (EF.e' (Q3 (l':=[s.o1 (v+3)]) (EF.e' (Q3 (l:=[s.o0 (v+3)]) (EF.e' (E9 (A1 (D9 (d':=.int (s.o0 (v+3):Nat)) (D9 (A6 rfl) (A6 rfl) sqo (aG3 hv)) A7 rfl rfl) A5) (show 1<=16777216 by decide))) (D9 (A6 rfl) A7 rfl rfl) (by simp;lia)))
      (EF.e' (E9 (A1 (D9 (d':=.int (s.o1 (v+3):Nat)) (D9 (A6 rfl) (A6 rfl) sqo (aG3 hv)) A7 rfl rfl) A5) (show 1<=16777216 by decide))) (by simp;lia))) (D9 (A6 rfl) A7 rfl rfl) (by simp;lia)) ?_ (show 13<14 by decide))
     show W K _ (rh2 m F G oD iD pD hD U J x8 Y (.own ((List.range (v+3)).map λz=>lN (s.row z))) (.val (.int (v:Int))) (.val (.tuple [lN (s.i0 (v+3)),lN (s.i1 (v+3)),lN (s.i2 (v+3))])) (.own (nI ([s.o0 (v+3)]++s.i2 (v+3)++[s.o1 (v+3)]++s.i0 (v+3))))) _
     refine K2 (ds:=(List.range (v+3)).map λz=>lN (s.row z)) (d:=lN (s.row (v+3))) rfl (EF.toN (Q3 (l:=[s.o0 (v+3)]++s.i2 (v+3)++[s.o1 (v+3)]++s.i0 (v+3)++[s.o2 (v+3)]) (l':=(s.i1 (v+3)).reverse) (EF.e' (Q3 (l:=[s.o0 (v+3)]++s.i2 (v+3)++[s.o1 (v+3)]++s.i0 (v+3)) (l':=[s.o2 (v+3)]) (K0 rfl) (EF.e' (E9 (A1 (D9 (d':=.int (s.o2 (v+3):Nat)) (D9 (A6 rfl) (A6 rfl) sqo (aG3 hv)) A7 rfl rfl) A5) (show 1<=16777216 by decide))) (by simp;lia)))
      (EF.e' (bV4 (D9 (A6 rfl) A7 rfl rfl))) (by simp;lia)) (by rw[Rv];simp)) ?_ ⟨.val (.int (v:Int)),.val (.tuple [lN (s.i0 (v+3)),lN (s.i1 (v+3)),lN (s.i2 (v+3))]),.own (nI ([s.o0 (v+3)]++s.i2 (v+3)++[s.o1 (v+3)]++s.i0 (v+3))),⟨rfl,rfl,rfl⟩,?_⟩ (bS8 b6 b7 b8 M rfl rfl rfl rfl)
     .rw[Aa3,Bs];unfold PySem.sizeLine;lia
     .have er:(List.range (v+3)).map (λz=>lN (s.row z))++[lN (s.row (v+3))]=(List.range (v+1+3)).map λz=>lN (s.row z):=by
       rw[show v+1+3=(v+3)+1 by lia,Cn (n:=v+3),Ad2];rfl
      rw[er];rfl
    rintro _ ⟨x11,x12,x13,⟨b11,b12,b13⟩,rfl⟩;rw[N7];have e4:((((List.range m).map λj=>lN [s.o0 (j+3),s.o1 (j+3),s.o2 (j+3)]).length:Int)).toNat=m:=by simp
    rw[e4];refine bA0 (i:=10) rfl ?_;exact L6 (F5 (A1 (A6 rfl) (A1 (A6 rfl) A5))) (by rw[<- hoD])
   .have N:decide (((k1+1:Nat):Int)>1)=true:=by simp;lia
    rw[N,Ae rfl];have hlt:X<q.length:=by lia
    have e1:(q++[1]).drop X=q[X]::(q++[1]).drop (X+1):=by
     rw[Cv (by simp;lia),List.getElem_append_left hlt]
    have e2:q.take (X+1)=q.take X++[q[X]]:=Br hlt
    refine bT4 (i:=3) (j:=5) (d:=.int (q[X]:Nat)) (u0:=F2 (m+3) s.i0 s.i1 (TT.put s.i2 2 (q.take X))) (π:=[]++[2]++[2]) (aK2 2 (aK2 2 aF1 A7 rfl (λu _=>⟨u,rfl⟩)) A7 rfl (λu0 h=>by cases h;exact⟨_,aE9 (by lia)⟩))
     (bE5 (ds:=nI ((q++[1]).drop (X+1)).reverse) ?_ (Y1 b6 b7 b8 M)) (by decide) ⟨_,rfl,rfl⟩ rfl rfl (cC8 (by lia)) ?_ ⟨k1-1,by lia,X+1,by lia,?_⟩ (Y1 (m:=m) (F:=F) (G:=G) (o:=L7 m s.o0 s.o1 s.o2) (i:=F2 (m+3) s.i0 s.i1 (TT.put s.i2 2 (q.take X))) (p:=[0]) (h:=(q++[1]).drop (X+1)) b6 b7 b8 M)
    .show some (Sl.own (nI ((q++[1]).drop X).reverse))=_
     rw[e1,List.reverse_cons,aF2];rfl
    .rw[Aa3,TT.B5,Ad1];unfold PySem.sizeLine;lia
    .rw[bO9 (by lia),bY4,TT.B5,<- e2];rfl
  .have N:decide (((k0+1:Nat):Int)>1)=true:=by simp;lia
   rw[N,Ae rfl];obtain⟨x,hx⟩:∃x,s.path[j]? = some x:=⟨_,Aa2 (by lia)⟩
   have e1:s.path.drop j=x::s.path.drop (j+1):=by
    obtain⟨h1,h2⟩:=Ab0.mp hx;rw[<- h2];exact Cv h1
   have e2:s.h1 (j+1)=x::s.h1 j:=by
    unfold TT.S.h1;obtain⟨h1,h2⟩:=Ab0.mp hx;rw[Br h1,h2];simp
   refine aN7 (ds:=nI (s.h1 j).reverse) (bE5 (d:=.int (x:Int)) (ds:=nI (s.path.drop (j+1)).reverse) ?_ (Y1 b6 b7 b8 M)) rfl rfl ?_ ⟨k0-1,by lia,j+1,by lia,?_⟩ (Y1 (m:=m) (F:=F) (G:=G) (o:=L7 m s.o0 s.o1 s.o2) (i:=F2 (m+3) s.i0 s.i1 s.i2) (p:=s.path.drop (j+1)) (h:=s.h1 j) b6 b7 b8 M)
   .show some (Sl.own (nI (s.path.drop j).reverse))=_
    rw[e1];simp[nI]
   .rw[E5,Ae1];unfold TT.S.h1 PySem.sizeLine;simp only[Ab7,Ae1,Ad1]
    lia
   .rw[e2];unfold rh
    simp[nI]
end
theorem aP0:C1 ["_law_script", "_law_k"] ["_law_script", "_law_k"] (B2 V2):={}
theorem aD4:C1 ["_law_turn", "_law_at"] ["_law_turn"] (B2 m6):={}
theorem bS4 {K:Frag}{pre:List PyData->List PyData->Prop}{n:Nat}(h:∀ds d,pre ds d->ds.length=n):∀vs H Q E,spL K pre vs H Q E->vs.length=n:=λvs H Q E ⟨ds,S,d,_,r,p,_⟩=>by
 have e:=r.length
 rw[e];exact h ds d p
def cl (ns:List Int)(k:Int):Int:=(ns[k.toNat]?).getD 0
def cX5 (ds:List PyData)(d:PyData):Prop:=∃ns k,0<=k/\ds=[lI ns,.int k]/\d=.int (cl ns k)
def bK0 (ds:List PyData)(d:PyData):Prop:=∃i,ds=[.int i]/\d=.bool true
def tN (l:List Nat):PyData:=.tuple (nI l)
def bL2 (ds:List PyData)(d:PyData):Prop:=∃l:List Nat,l≠[]/\l.length<=10000/\ds=[lN l]/\d=tN (TT.R4 l)
theorem w4 (M:Nat):∀l:List Nat,(l.map λ(x:Nat)=>(x:Int)).idxOf (M:Int)=l.idxOf M
 | []=>rfl
 | b::l=>by
  rw[Ac7,List.idxOf_cons,List.idxOf_cons,w4 M l];by_cases e:b=M
  .subst e;simp
  .have e':¬(b:Int)=(M:Int):=by lia
   have h1:(b==M)=false:=by simpa using e
   have w:((b:Int)==(M:Int))=false:=by simpa using e'
   rw[h1,w]
section
variable {P:Program}{w:World}{K:Frag}{mg:Str->Option Value}{base:Heap}{a:Ad}
theorem bZ9 (T:Tx K mg a):D2 P w K mg base CX0 1 a.t9 a.w6 ["_law_script", "_law_k"] (spV K cX5):=by
 refine T.N2.F.ok aP0 (X3 λds d ⟨_,_,_,e,_⟩=>by rw[e];rfl) (λX A m s H vs Q E hr h=>?_)
 obtain⟨ds,S,d,U,r,⟨z,k,J,rfl,rfl⟩,q⟩:=h;refine⟨_,(A3 (O1 (C3 bN0 (pv 1) (C0 K3 (by rfl) T.P9 Bm (A0 (pv 0) A2)) (F8 _)) (A8 (D0 (B1 C2 (pv 0) (pv 1) (λ_ _=>rfl)))) F3)
   (A8 (D0 A4))),K8 U r ?_ q⟩
 refine A9 (X4 (C5 (aX3 (A6 rfl) (S8 (A1 (A6 rfl) A5)))) (λh=>(L6 (d:=.int (cl z k)) (D9 (A6 rfl) (A6 rfl) rfl ?_) rfl)) (λh=>J5 ?_))
 .have h:k<(z.map PyData.int).length:=Ax h
  rw[Aa3]at h;refine W2 k.toNat (by lia) ?_
  have Y:k.toNat<z.length:=by lia
  rw[Aa9,Aa2 Y];unfold cl;rw[Aa2 Y];rfl
 have h:¬k<((z.map PyData.int).length:Int):=Bu h
 rw[Aa3]at h;refine(L6 A7 ?_);show PyData.int 0=.int (cl z k);unfold cl;rw[Ad6 (by lia)];rfl
theorem bL5 (T:Tx K mg a):D2 P w K mg base CX0 1 a.aF6 a.aG2 ["_law_turn"] (spV K bL2):=by
 refine T.k8.F.ok aD4 (X3 λds d ⟨_,_,_,e,_⟩=>by rw[e];rfl) (λD A N s H vs Q E hr h=>?_)
 obtain⟨ds,S,d,hS,r,⟨l,M,hl,rfl,rfl⟩,q⟩:=h;refine⟨_,(A3 (psS 1 aD4 (K9 Ab1 PySem.F.slot_list_index PySem.F.type_list_index (cF9 K) (pv 0) (A0 (C0 (cD5 K rfl) (by rfl) T.bY1 boot_min (A0 (pv 0) A2)) A2)))
   (A8 (D0 (E3 O6 (by rfl) T.M1 boot_tuple (A0 (B4 (M5 K) (W8 bI4 (pv 0) (S6 (pv 1)) aQ9) (W8 bI4 (pv 0) aQ9 (S6 (pv 1)))) A2))))),K8 hS r ?_ q⟩
 obtain⟨X,J⟩:=TT.bX3 M;have B:lN l=lI (l.map λ(x:Nat)=>(x:Int)):=by unfold lN lI nI;simp
 have R:((TT.mn l:Nat):Int)∈(l.map λ(x:Nat)=>(x:Int))/\∀z∈(l.map λ(x:Nat)=>(x:Int)),((TT.mn l:Nat):Int)<=z:=⟨Aa8.mpr ⟨_,X,rfl⟩,λz hz=>by
  obtain⟨y,hy,rfl⟩:=Aa8.mp hz
  have:=J y hy
  lia⟩
 have U:=w4 (TT.mn l) l
 have Y:l.idxOf (TT.mn l)<=l.length:=Cq (Ac4 X)
 refine A9 (E7 (d:=.int (l.idxOf (TT.mn l):Nat)) ?_ ?_)
 .have h:=cI5 (K:=K) (m:=true) (ρ:=sl0 ["_law_turn", "_law_at"].length [lI (l.map λ(x:Nat)=>(x:Int))]) (ta:=D7 0) v0 (dQ8 (A1 v0 A5) R) R.1
  rw[U]at h;rw[B];exact h
 refine L6 (Q0 (A1 (EF.e' (bE6 (EF.e' (bZ4 (ds:=nI l) (A6 rfl) (u4 (A6 rfl)) bI5 (J6 l))) (EF.e' (bZ4 (ds:=nI l) (A6 rfl) bI5 (u4 (A6 rfl)) (J6 l))) (T3 _ _ (J6 l)) (T3 _ _ (J6 l)) ?_)) A5) ?_) ?_
 .rw[aW9 (by rw[E5];exact Y),bJ2 (by rw[E5];exact Y),Cg,Ad1,E5];unfold PySem.sizeLine;lia
 .rw[u8,T3 _ _ (J6 l),T3 _ _ (J6 l)];rfl
 .show PyData.tuple _=tN _
  rw[aW9 (by rw[E5];exact Y),bJ2 (by rw[E5];exact Y)]
  unfold tN TT.R4 nI
  simp
end
end K34
namespace LV
open PySem L2
section
variable {K:Frag}{ρ ρ' ρ1:List Sl}{m m':Bool}{t ta tb tc:TE}{d d':PyData}{ds es:List PyData}
theorem cP9 (n:Nat)(he:E K true t ρ d)(hi:ρ[i]? = some (.own ds))(J:E K false tb ρ (.int k))(z:k=n)(N:n<ds.length)(M:R.nx (ρ.set i (.own (ds.set n d))))(nb:M9 ρ=true:=by rfl) :
  W K (aL7 t (dL0 (D7 i) tb cM3)) ρ R:=λS B D σ H o I s=>by
 refine he S B σ H o I _ λx U X Q=>?_
 obtain⟨p,hp,a,xs,b,c⟩:=(I.grow X).own i ds hi;refine⟨_,a,?_⟩;refine J S B σ U o (I.grow X) _ λw F e Y=>?_
 cases Y
 have P:=c.length
 refine⟨p,xs,k,n,rfl,rfl,e _ _ b,by unfold ixN;rw[Ae (by lia),Ae (by lia)];simp[z],?_⟩
 exact s.nx _ σ _ _ (((I.grow X).grow e).upd hi hp ((c.mono (G0 e)).set n (Q.mono (G0 e))) (J0 nb)) M
theorem Reps.rep (r:Reps K H xs ds):∀n:Nat,Reps K H (List.replicate n xs).flatten (List.replicate n ds).flatten
 | 0=>.nil
 | n+1=>by
  rw[Bx,Bx,Ck,Ck];exact r.append (Reps.rep r n)
theorem bL4 (h:G5 ds=true):∀n:Nat,G5 (List.replicate n ds).flatten=true
 | 0=>rfl
 | n+1=>by rw[Bx,Ck,u8,h,bL4 h n];rfl
theorem cR5 (J:EF K ta ρ ds)(M:E K false tb ρ (.int k))(hi:G5 ds=true)(h1 : -(2^63)<=k)(U:k<2^63)(N:ds.length*k.toNat<=sizeLine):EF K (tOp dP9 ta tb) ρ (List.replicate k.toNat ds).flatten:=λS B σ H o I Q q=>
 J S B σ H o I _ λp xs H1 z P X D=>M S B σ H1 o (I.grow z) _ λy Y w F=>by
  cases F
  have s:Reps K Y xs ds:=(D.mono H9).mono w
  refine⟨p,k,xs,rfl,rfl,w _ _ X,h1,U,by rw[s.length];exact N,λR e=>?_⟩
  exact q R _ _ (L2.Same.tr (L2.Same.tr z w) (D1 e)) (O4 (L2.Same.tr z w) e) B3 (aA0 (I.grow (L2.Same.tr z w)).lists e (s.rep _) (bL4 hi _))
theorem bK8:∀{ts:List (List Int)} {vs:List V},Reps K H vs (ts.map tI)->(∀t∈ts,t≠[])->TupsV K H vs ts
 | [],_,r,_=>by cases r;exact trivial
 | t::ts,_,r,h=>by
  cases r with
  | cons a b=>
   refine⟨?_,bK8 b λt ht=>h t (by simp[ht])⟩
   cases a with
   | tup s r=>rw[r.ints]at s;exact⟨_,rfl,s,h t (by simp)⟩
theorem aM6 {H:Hp}{vs:List V}{ts:List (List Int)}(r:Reps K H vs (ts.map tI)):∀{q:List Nat},(∀i∈q,i<vs.length)->Reps K H (q.map λi=>vs.getD i .non) ((q.map λi=>ts.getD i []).map tI)
 | [],_=>.nil
 | i::q,h=>by
  have hi:=h i (by simp)
  have s:=r.length
  rw[Aa3]at s;obtain⟨v,h1,w⟩:=r.get' (i:=i) (d:=tI (ts.getD i [])) (by
   rw[Aa9,Aa2 (by lia)]
   simp[List.getD,Aa2 (show i<ts.length by lia)])
  have e:vs.getD i .non=v:=by simp[List.getD,h1]
  rw[Ac7,Ac7,Ac7,e];exact .cons w (aM6 r λj z=>h j (by simp[z]))
theorem aG7 {t:TA}{ts ss:List (List Int)}(R:A K false t ρ [.list (ts.map tI)])(X:∀t∈ts,t≠[])(N:ts.length<64)(hp:ss.Perm ts)(B:ss.Pairwise E8) :
  EF K (tCB (λxs H Q=>∃(p:Addr) (ys:List V) (ts:List (List Int)),xs=[.ref p]/\SqL K H p ys/\TupsV K H ys ts/\ys.length<64 /\
   ∀a (q:List Nat),H a=none->q.Perm (List.range ys.length)->(q.map λi=>ts.getD i []).Pairwise E8->Q (.ref a) (upd H a (.lst (q.map λi=>ys.getD i .non)))) t) ρ (ss.map tI):=
 cN9 R (e7 l8 ss) λH vs Q r q=>by
  cases r with
  | cons a b=>
   cases b
   cases a with
   | @lst p xs _ s r=>
    have F:=r.length
    rw[Aa3]at F;refine⟨p,xs,ts,rfl,s,bK8 r X,by lia,λa Y h1 z J=>q a _ h1 ?_⟩
    have e:(Y.map λi=>ts.getD i [])=ss:=by
     have w:(Y.map λi=>ts.getD i []).Perm ts:=by
      have U:(Y.map λi=>ts.getD i []).Perm ((List.range xs.length).map λi=>ts.getD i []):=z.map _
      have M:(List.range xs.length).map (λi=>ts.getD i [])=ts:=by
       refine List.ext_getElem? λj=>?_
       by_cases D:j<xs.length
       .rw[O3 D];simp[List.getD,Aa2 (show j<ts.length by lia)]
       .rw[Ad6 (by simp;lia),Ad6 (by lia)]
      rw[M]at U;exact U
     exact List.Perm.eq_of_pairwise (le:=E8) (λa b _ _ h1 z=>u6 a b h1 z) J B (w.trans hp.symm)
    have:=aM6 r (q:=Y) λi hi=>Ab5.mp (z.mem_iff.mp hi)
    rw[e]at this;exact this
end
end LV
namespace K34
open PySem L2 LV PyProof.Rows
theorem aZ0:C1 ["_law_cell", "_law_k"] ["_law_cell", "_law_k"] (B2 j6):={}
theorem cN5 (h : -1000000000000000000<i/\i<1000000000000000000)(h' : -1000000000000000000<j/\j<1000000000000000000):CMulB i j:=by
 have:(1000000000000000000:Nat)<2^512:=by decide
 constructor <;> lia
def mx0 (c k:Int):Int:=(c % 1000000007*(k+3)*48271+(k+1)*(k+5)*69621) % 2147483647
def mx (c k:Int):Int:=mx0 c k*40692 % 2147483399
theorem dP0 (c k:Int):0<=mx0 c k/\mx0 c k<2147483647:=⟨Co _ (by decide),Cw _ (by decide)⟩
theorem dW5 (c k:Int):0<=mx c k/\mx c k<2147483399:=⟨Co _ (by decide),Cw _ (by decide)⟩
def aW4 (ds:List PyData)(d:PyData):Prop:=∃c k,(0<=k/\k<=1000)/\ds=[.int c,.int k]/\d=.int (mx c k)
theorem cP0 {x y A B:Int}(h:0<=x/\x<=A)(h':0<=y/\y<=B):0<=x*y/\x*y<=A*B:=⟨Int.mul_nonneg h.1 h'.1,Int.mul_le_mul h.2 h'.2 h'.1 (Int.le_trans h.1 h.2)⟩
section
variable {P:Program}{w:World}{K:Frag}{mg:Str->Option Value}{base:Heap}{a:Ad}
theorem aK9 (T:Tx K mg a):D2 P w K mg base CX0 1 a.aF4 a.aI1 ["_law_cell", "_law_k"] (spV K aW4):=by
 refine T.N8.F.ok aZ0 (X3 λds d ⟨_,_,_,e,_⟩=>by rw[e];rfl) (λY A z s H vs Q E hr h=>?_)
 obtain⟨ds,S,d,X,r,⟨c,k,⟨N,h1⟩,rfl,rfl⟩,q⟩:=h;have m:0<=c % 1000000007/\c % 1000000007<=1000000007:=⟨Co _ (by decide),Int.le_of_lt (Cw _ (by decide))⟩
 have U:=cP0 m (y:=k+3) (B:=2000) ⟨by lia,by lia⟩
 have J:=cP0 (x:=k+1) (A:=2000) (y:=k+5) (B:=2000) ⟨by lia,by lia⟩ ⟨by lia,by lia⟩
 have M:=dP0 c k
 refine⟨_,(A8 (D0 (B4 U1 (B4 aG5 (B4 U1 (B4 G4 (B4 aG5 (B4 aG5 (B4 U1 (pv 0) A4) (B4 G4 (pv 1) A4)) A4) (B4 aG5 (B4 aG5 (B4 G4 (pv 1) A4) (B4 G4 (pv 1) A4)) A4)) A4) A4) A4))),K8 X r ?_ q⟩;refine L6 (d:=.int (mx c k)) (e_i (e_i (i:=mx0 c k) (e_i (K5 (e_i (e_i (e_i (A6 rfl) A7 ?_) (K5 (A6 rfl) A7) ?_) A7 ?_) (e_i (e_i (K5 (A6 rfl) A7) (K5 (A6 rfl) A7) ?_) A7 ?_)) A7 ?_) A7 (cN5 (by lia) (by lia))) A7 (by decide)) rfl
 .decide
 .exact cN5 (by lia) (by lia)
 .exact cN5 (by lia) (by lia)
 .exact cN5 (by lia) (by lia)
 .exact cN5 (by lia) (by lia)
 .decide
end
end K34
namespace TT
def pk:Nat->Int->List Nat->List Nat
 | 0,_,_=>[]
 | n+1,r,l=>l.getD (r % l.length).toNat 0::pk n (r / l.length) (l.eraseIdx (r % l.length).toNat)
theorem bV7 {r:Int}{l:List Nat}(h:l≠[]):(r % l.length).toNat<l.length:=by
 have w:0<l.length:=Du.mpr h
 have h1:=Co r (b:=(l.length:Int)) (by lia)
 have e:=Cw r (b:=(l.length:Int)) (by lia)
 lia
theorem X0:∀(l:List Nat) (i:Nat) (h:i<l.length),(l[i]::l.eraseIdx i).Perm l
 | a::l,0,h=>.refl _
 | a::l,i+1,h=>by
  have ih:=X0 l i (by simpa using h)
  simp only[List.getElem_cons_succ,List.eraseIdx_cons_succ];exact(List.Perm.swap _ _ _).trans (ih.cons a)
theorem bI3:∀(n:Nat) (r:Int) (l:List Nat),l.length=n->(pk n r l).Perm l
 | 0,r,l,h=>by rw[List.length_eq_zero_iff.mp h];exact .nil
 | n+1,r,l,h=>by
  have w:l≠[]:=λe=>by rw[e]at h;simp at h
  have hi:=bV7 (r:=r) w
  unfold pk;have e:l.getD (r % l.length).toNat 0=l[(r % l.length).toNat]:=by simp[List.getD,Aa2 hi]
  rw[e];have z:=bI3 n (r / l.length) (l.eraseIdx (r % l.length).toNat) (by rw[List.length_eraseIdx_of_lt hi];lia)
  exact(z.cons _).trans (X0 l _ hi)
theorem dS3 (h:l.Perm ((List.range m).map (· + 3))):Nm (m+3) λv=>([0,1,2]++l).getD v 0:=by
 have U:l.length=m:=by rw[h.length_eq];simp
 have N:([0,1,2]++l).Nodup:=by
  have h1:l.Nodup:=h.nodup_iff.mpr (Ae0.mpr (Dl.imp λh e=>h (by lia)))
  have s:∀x∈l,3<=x:=λx hx=>by
   obtain⟨y,_,e⟩:=Aa8.mp (h.mem_iff.mp hx)
   lia
  refine Aa4.mpr ⟨by decide,h1,λa Y b X e=>?_⟩
  have:=s b X
  simp at Y;lia
 have lt:∀x∈[0,1,2]++l,x<m+3:=λx hx=>by
  rcases Aa0.mp hx with hx | hx
  .simp at hx;lia
  .obtain⟨y,M,e⟩:=Aa8.mp (h.mem_iff.mp hx)
   have:=Ab5.mp M
   lia
 have len:([0,1,2]++l).length=m+3:=by simp[U]
 have at_:∀v,(z:v<m+3)->([0,1,2]++l).getD v 0=([0,1,2]++l)[v]'(by lia):=λv z=>by rw[Ac0,Aa2 (by lia)];rfl
 refine⟨λv z=>?_,λv w z J e=>?_,rfl,rfl,rfl⟩
 .show([0,1,2]++l).getD v 0<m+3
  rw[at_ v z];exact lt _ (Cr _)
 .have e:([0,1,2]++l).getD v 0=([0,1,2]++l).getD w 0:=e
  rw[at_ v z,at_ w J]at e;exact(List.getElem_inj N).mp e
end TT
namespace K34
open PySem L2 LV PyProof.Rows
theorem F7:C1 ["_law_cell", "_law_m", "_law_names_here", "_law_rest", "_law_k", "_law_left", "_law_ranks"] ["_law_cell", "_law_m"] (B2 o6):={}
def rs (c:Int):Nat->Int
 | 0=>c / 2
 | j+1=>rs c j / 4096
def prs (c:Int)(m:Nat):List (List Int):=(List.range m).map λ(k:Nat)=>[mx c (40+(k:Int)),(k:Int)]
def srt (c:Int)(m:Nat):List (List Int):=(prs c m).mergeSort λa b => !HT.X1 b a
def nm (c:Int)(m:Nat):List Nat:=[0,1,2]++(if c % 2=1 then TT.pk m (rs c m) ((List.range m).map (· + 3)) else(srt c m).map λt=>(t.getD 1 0).toNat+3)
theorem t7 (c:Int)(m:Nat):(srt c m).Perm (prs c m):=List.mergeSort_perm _ _
theorem cL5 (c:Int)(m:Nat):(srt c m).Pairwise E8:=by
 have:=List.pairwise_mergeSort (le:=λa b:List Int => !HT.X1 b a) (λa b d h1 e=>by
  have:=aA5 a b d (by unfold E8;simpa using h1) (by unfold E8;simpa using e)
  unfold E8 at this;simp[this]) (λa b=>by
  rcases bA7 a b with h | h <;> unfold E8 at h <;> simp[h]) (prs c m)
 refine this.imp λh=>?_
 unfold E8;simpa using h
theorem dR6 (c:Int)(m:Nat):TT.Nm (m+3) λv=>(nm c m).getD v 0:=by
 unfold nm;refine TT.dS3 ?_;split
 .exact TT.bI3 _ _ _ (by simp)
 .refine((t7 c m).map _).trans ?_
  have:(prs c m).map (λt=>(t.getD 1 0).toNat+3)=(List.range m).map (· + 3):=by
   unfold prs;rw[Ae2];rfl
  rw[this]
theorem dM8 (c:Int)(m:Nat):(nm c m).length=m+3:=by
 unfold nm;split
 .rw[Ab7,(TT.bI3 m (rs c m) _ (by simp)).length_eq];simp;lia
 .rw[Ab7,Aa3,(t7 c m).length_eq];simp[prs];lia
def cI9 (ds es:List PyData):Prop:=∃(c:Int) (m:Nat),m<=20/\ds=[.int c,.int (m:Int)]/\es=nI (nm c m)
theorem aZ5:∀(l:List α) (n:Nat),(l.map f).eraseIdx n=(l.eraseIdx n).map f
 | [],n=>rfl
 | a::l,0=>rfl
 | a::l,n+1=>by simp[List.eraseIdx_cons_succ,aZ5 l n]
def f1 (c:Int):PyData->Option PyData
 | .int k=>some (tI [mx c (40+k),k])
 | _=>none
def f2:PyData->Option PyData
 | .tuple [_,.int k]=>some (.int (3+k))
 | _=>none
theorem R3:∀{l:List α},(∀x∈l,f x=g x)->l.filterMap f=l.filterMap g
 | [],_=>rfl
 | a::l,h=>by rw[Ao,Ao,h a (by simp),R3 λx hx=>h x (by simp[hx])]
theorem dG5 (c:Int)(m:Nat):(Z6 0 m).filterMap (f1 c)=(prs c m).map tI:=by
 unfold Z6 prs;rw[Cm,Ae2,<- List.filterMap_eq_map];refine R3 λx _=>?_
 show f1 c (.int (0+(x:Int)))=_
 rw[Int.zero_add];rfl
theorem cA2 (h:t∈srt c m):∃k:Nat,t=[mx c (40+(k:Int)),(k:Int)]:=by
 have:=(t7 c m).mem_iff.mp h
 obtain⟨k,_,e⟩:=Aa8.mp this;exact⟨k,e.symm⟩
theorem dK4 (c:Int)(m:Nat):((srt c m).map tI).filterMap f2=nI ((srt c m).map λt=>(t.getD 1 0).toNat+3):=by
 unfold nI;rw[Cm,Ae2,<- List.filterMap_eq_map];refine R3 λt e=>?_
 obtain⟨k,rfl⟩:=cA2 e;show some (PyData.int (3+(k:Int)))=some (PyData.int ((((k:Int)).toNat+3:Nat):Int))
 congr 2
 lia
theorem nd1:(["_law_k", "_law_cell"]:List Str).Nodup:=by decide +kernel
theorem nd2:(["_law_rank"]:List Str).Nodup:=by decide +kernel
section
variable {P:Program}{w:World}{K:Frag}{mg:Str->Option Value}{base:Heap}{a:Ad}
theorem cU0 (T:Tx K mg a):D2 P w K mg base CX0 2 a.aH8 a.aI9 ["_law_cell", "_law_m"] (spL K cI9):=by
 have z:D2 P w K mg base CX0 1 _ _ _ _:=aK9 T
 refine T.aJ4.F.ok F7 (bS4 λds d ⟨_,_,_,e,_⟩=>by rw[e];rfl) (λcdv A outer s H vs Q E hr h=>?_)
 obtain⟨ds,S,es,hS,r,⟨c,m,hm,rfl,rfl⟩,q⟩:=h;refine⟨_,(A3 (psS 2 F7 (C4 (A0 A4 (A0 A4 (A0 A4 A2)))))
   (A3 (O1 (C3 bB5 (B4 U1 (pv 0) A4) A4 (F8 _)) (A3 (psS 3 F7 (B4 aA9 (pv 0) A4))
   (A3 (G3 An rfl (G9 rfl T.L4 (A0 (pv 1) A2)) (pgN 4 F7) (A8 (psS 3 F7 (B4 aA9 (pv 3) A4))))
   (A3 (psS 5 F7 (E3 (aY6 rfl) (by rfl) T.aM5 boot_list (A0 (cV9 rfl T.L4 (A0 A4 (A0 (B4 G4 (pv 1) A4) A2))) A2)))
   (A3 (G3 An rfl (G9 rfl T.L4 (A0 (pv 1) A2)) (pgN 4 F7) (A3 (F0 (K9 Ab1 Ah Ag D5 (pv 2) (A0 (K9 Ab1 PySem.F.slot_list_pop PySem.F.type_list_pop cM4 (pv 5) (A0 (B4 U1 (pv 3) (C0 K3 (by rfl) T.P9 Bm (A0 (pv 5) A2))) A2)) A2)))
   (A8 (psS 3 F7 (B4 aA9 (pv 3) (B4 G4 (C0 K3 (by rfl) T.P9 Bm (A0 (pv 5) A2)) A4))))))
   (A8 (D0 (pv 2))))))) F3)
   (A3 (psS 6 F7 (C0 (W6 K) (by rfl) T.Q2 boot_sorted (A0 (M3 (T:=["_law_k"]) (N':=["_law_k", "_law_cell"]) (is:=[0]) rfl (.of rfl rfl rfl (by exact⟨rfl,trivial⟩) rfl rfl rfl (by first | exact⟨⟨_,rfl,.inl rfl,.inl rfl⟩,trivial⟩ | exact⟨⟨_,rfl,.inr rfl,.inl rfl⟩,trivial⟩)) (G9 rfl T.L4 (A0 (pv 1) A2)) (L5 (by decide)) λ_ _ _ _=>⟨(K4 (i:=0) nd1 rfl (Or.inl rfl)),N3,(D6 (A0 (pcl z hr T.N8 (A0 (pv 1) (A0 (B4 G4 A4 (pv 0)) A2))) (A0 (pv 0) A2)))⟩) A2)))
   (A8 (D0 (B4 (M5 K) (pv 2) (M3 (T:=["_law_rank"]) (N':=["_law_rank"]) (is:=[]) rfl (.of rfl rfl rfl trivial rfl rfl rfl trivial) (S7 (pv 6)) (L5 (by decide)) λ_ _ _ _=>⟨(K4 (i:=0) nd2 rfl (Or.inl rfl)),N3,(B4 G4 A4 (B1 (ixK K) (pv 0) A4 (λ_ _=>rfl)))⟩))))))),aD7 hS r ?_ q⟩
 refine A9 (F9 (E9 (A1 A7 (A1 A7 (A1 A7 A5)))) ?_ (show 2<7 by decide))
 show W K _ [.val (.int c),.val (.int (m:Int)),.own (nI [0,1,2]),.no,.no,.no,.no] _
 refine A9 (X4 (C5 (aD5 (e_i (A6 rfl) A7 (by decide)) A7)) (λh=>?_) (λh=>J5 ?_))
 .have h:c % 2=1:=Ax h
  refine A9 (E7 (d:=.int (rs c 0)) (e_i (A6 rfl) A7 ⟨by decide,by decide⟩) ?_)
  refine A9 (N0 (R9 (A1 (A6 rfl) A5) ?_ ?_) (λj ρ=>∃U,U.nb=true/\ρ=[.val (.int c),.val (.int (m:Int)),.own (nI [0,1,2]),.val (.int (rs c j)),U,.no,.no]) ⟨.no,rfl,rfl⟩ ?_ ?_)
  .lia
  .lia
  .rintro j d _ M ⟨U,b4,rfl⟩;obtain⟨rfl,hj⟩:=S3 M;refine⟨_,B7,?_⟩;exact E7 (d:=.int (rs c (j+1))) (e_i (A6 rfl) A7 ⟨by decide,by decide⟩) ⟨.val (.int (j:Int)),rfl,rfl⟩
  rintro _ ⟨U,b4,rfl⟩;rw[N7,Ac8];refine A9 (F9 (ds:=nI ((List.range m).map (· + 3))) ?_ ?_ (show 5<7 by decide))
  .have:=dH3 (K:=K) (ρ:=[.val (.int c),.val (.int (m:Int)),.own (nI [0,1,2]),.val (.int (rs c m)),U,.no,.no]) (i:=3) (j:=(m:Int)+3) (A1 A7 (A1 (K5 v1 A7) A5)) (by lia)
   have e:Z6 3 ((m:Int)+3-3).toNat=nI ((List.range m).map (· + 3)):=by
    have e':((m:Int)+3-3).toNat=m:=by lia
    rw[e'];unfold Z6 nI;rw[Ae2];refine Az λx _=>?_
    show PyData.int (3+(x:Int))=PyData.int ((x+3:Nat):Int)
    congr 1;lia
   rw[e]at this;exact this
  refine A9 (N0 (R9 (A1 (A6 rfl) A5) ?_ ?_) (λj ρ=>∃U pre l r,U.nb=true/\TT.pk m (rs c m) ((List.range m).map (· + 3))=pre++TT.pk (m-j) r l/\l.length=m-j/\pre.length<=j/\ρ=[.val (.int c),.val (.int (m:Int)),.own (nI ([0,1,2]++pre)),.val (.int r),U,.own (nI l),.no]) ⟨U,[],(List.range m).map (· + 3),rs c m,b4,by simp,by simp,by simp,rfl⟩ ?_ ?_)
  .lia
  .lia
  .rintro j d _ M ⟨U,pre,l,X,b4,J,N,hpl,rfl⟩;obtain⟨rfl,hj⟩:=S3 M;have hj:j<m:=by lia
   have D:l≠[]:=λe=>by rw[e]at N;simp at N;lia
   have hpos:0<l.length:=Du.mpr D
   have Y:=TT.bV7 (r:=X) D
   have hnn:=Co X (b:=(l.length:Int)) (by lia)
   generalize hn:(X % (l.length:Int)).toNat=n at Y;refine⟨_,B7,?_⟩;show W K _ [.val (.int c),.val (.int (m:Int)),.own (nI ([0,1,2]++pre)),.val (.int X),.val (.int (j:Int)),.own (nI l),.no] _;refine A9 (aN7 (i:=2) (j:=5) (ds:=nI ([0,1,2]++pre)) (d:=.int (l[n]:Nat)) (cR2 n (ds:=nI l) rfl (e_i (A6 rfl) (S8 (A1 (K0 rfl) A5)) ?_) ?_ ?_ ?_) rfl rfl ?_ ?_)
   .rw[E5];lia
   .rw[E5,<- hn];lia
   .unfold nI;rw[Aa9,Aa2 Y];rfl
   .lia
   .rw[E5];simp;unfold PySem.sizeLine;lia
   have el:(nI l).eraseIdx n=nI (l.eraseIdx n):=by unfold nI;rw[aZ5]
   have el2:((nI (l.eraseIdx n)).length:Int)+1=(l.length:Int):=by rw[E5,List.length_eraseIdx_of_lt Y];lia
   have ea:nI ([0,1,2]++pre)++[PyData.int (l[n]:Nat)]=nI ([0,1,2]++(pre++[l[n]])):=by simp[nI]
   show W K _ [.val (.int c),.val (.int (m:Int)),.own (nI ([0,1,2]++pre)++[PyData.int (l[n]:Nat)]),.val (.int X),.val (.int (j:Int)),.own ((nI l).eraseIdx n),.no] _
   rw[el,ea];refine E7 (d:=.int (X / (l.length:Int))) ?_ ⟨.val (.int (j:Int)),pre++[l[n]],l.eraseIdx n,X / (l.length:Int),rfl,?_,?_,?_,rfl⟩
   .rw[<- el2];exact e_i (A6 rfl) (K5 (S8 (A1 (K0 rfl) A5)) A7) ⟨by lia,by lia⟩
   .rw[J];obtain⟨k,hk⟩:∃k,m-j=k+1:=⟨m-j-1,by lia⟩
    have hk':m-(j+1)=k:=by lia
    rw[hk,hk'];show pre++(l.getD (X % (l.length:Int)).toNat 0::TT.pk k (X / (l.length:Int)) (l.eraseIdx (X % (l.length:Int)).toNat))=_;rw[hn,Ac0,Aa2 Y]
    simp
   .rw[List.length_eraseIdx_of_lt Y];lia
   .simp;lia
  rintro _ ⟨U,pre,l,X,b4,J,N,hpl,rfl⟩;rw[N7,Ac8,Nat.sub_self]at J;refine bT0 (ds:=nI ([0,1,2]++pre)) rfl ?_;show nI _=nI (nm c m);unfold nm;rw[Ae h,J];simp[TT.pk]
 have h:¬c % 2=1:=Bu h
 have B:(srt c m).length=m:=by rw[(t7 c m).length_eq];simp[prs]
 have c1:=M4 (K:=K) (m:=true) (ρ:=[.val (.int c),.val (.int (m:Int)),.own (nI [0,1,2]),.no,.no,.no,.no]) (n:=1) (is:=[0]) (g:=G7 0) (tt:=aN0)
  (te:=bP4 (G1 (aW8 (spV K aW4) [] E0 (G1 (D7 1) (G1 (tOp (rI0 λi j=>V.int (i+j)) (tC (.int 40)) (D7 0)) V7))) (G1 (D7 0) V7))) (f1 c) (R9 (A1 v1 A5) (by lia) (by lia)) (by rw[N7];unfold PySem.sizeLine;lia) (λd M=>by
   obtain⟨i,hi⟩:=List.mem_iff_getElem?.mp M;obtain⟨rfl,hi⟩:=S3 hi;have hi:i<m:=by lia
   exact⟨_,B7,y0,F5 (A1 (C8 (A1 (A6 rfl) (A1 (K5 A7 (A6 rfl)) A5)) ⟨c,40+(i:Int),by lia,rfl,rfl⟩) (A1 (A6 rfl) A5))⟩)
 rw[Ac8,dG5]at c1;refine A9 (F9 (ds:=(srt c m).map tI) (aG7 (ts:=prs c m) (A1 (EF.e' c1) A5) (λt ht=>?_) ?_ (t7 c m) (cL5 c m)) ?_ (show 6<7 by decide))
 .obtain⟨k,_,rfl⟩:=Aa8.mp ht;simp
 .simp[prs];lia
 show W K _ [.val (.int c),.val (.int (m:Int)),.own (nI [0,1,2]),.no,.no,.no,.own ((srt c m).map tI)] _
 have c2:=M4 (K:=K) (m:=false) (ρ:=[.val (.int c),.val (.int (m:Int)),.own (nI [0,1,2]),.no,.no,.no,.own ((srt c m).map tI)]) (n:=1) (is:=[]) (g:=G7 0) (tt:=aN0)
  (te:=tOp (rI0 λi j=>V.int (i+j)) (tC (.int 3)) (tOp (rIx K) (D7 0) (tC (.int 1)))) f2 (Z1 (K0 (i:=6) rfl)) (by rw[Aa3,B];unfold PySem.sizeLine;lia) (λd M=>by
   obtain⟨t,ht,rfl⟩:=Aa8.mp M;obtain⟨k,rfl⟩:=cA2 ht;exact⟨_,B7,y0,K5 A7 (D9 (cI7 rfl) A7 rfl rfl)⟩)
 rw[dK4]at c2
 have:=aS9 (R:={nx:=λ_=>False,rl:=λe=>e=nI (nm c m)}) (bE6 (K0 (i:=2) rfl) (EF.e' c2) (J6 _) (J6 _) (by rw[E5,E5,Aa3,B];unfold PySem.sizeLine;simp;lia)) (by
  show _=nI (nm c m)
  unfold nm;rw[Ac h,<- aF2])
 exact this
end
end K34
namespace TT
def pfg (N:Nat->Int):Nat->Nat×Nat
 | 0=>(0,0)
 | j+1=>((pfg N j).1+(N j % ((j:Int)+1-(pfg N j).1)).toNat,(pfg N j).2+(N j / 64 % ((((pfg N j).1+(N j % ((j:Int)+1-(pfg N j).1)).toNat:Nat):Int)+1-(pfg N j).2)).toNat)
def rF (N:Nat->Int)(j:Nat):Nat:=(pfg N (j+1)).1
def rG (N:Nat->Int)(j:Nat):Nat:=(pfg N (j+1)).2
theorem dQ3 (N:Nat->Int):∀j,pv (rF N) j=(pfg N j).1
 | 0=>rfl
 | _+1=>rfl
theorem dO6 (N:Nat->Int):∀j,pv (rG N) j=(pfg N j).2
 | 0=>rfl
 | _+1=>rfl
theorem bN9 (N:Nat->Int)(j:Nat):rF N j=(pfg N j).1+(N j % ((j:Int)+1-(pfg N j).1)).toNat:=rfl
theorem cI4 (N:Nat->Int)(j:Nat):rG N j=(pfg N j).2+(N j / 64 % ((rF N j:Int)+1-(pfg N j).2)).toNat:=rfl
theorem bF6 (N:Nat->Int):∀j,(pfg N j).1<=j/\(pfg N j).2<=(pfg N j).1/\(pfg N (j+1)).1<=j/\(pfg N (j+1)).2<=(pfg N (j+1)).1
 | j=>by
  have base:(pfg N j).1<=j/\(pfg N j).2<=(pfg N j).1:=by
   cases j with
   | zero=>exact⟨Aa7 _,Aa7 _⟩
   | succ i=>
    have:=bF6 N i
    exact⟨by lia,this.2.2.2⟩
  have h1:rF N j<=j:=by
   rw[bN9];have h:=Cw (N j) (b:=(j:Int)+1-(pfg N j).1) (by lia)
   have e:=Co (N j) (b:=(j:Int)+1-(pfg N j).1) (by lia)
   lia
  have z:(pfg N j).1<=rF N j:=by rw[bN9];lia
  have w:rG N j<=rF N j:=by
   rw[cI4];have h:=Cw (N j / 64) (b:=(rF N j:Int)+1-(pfg N j).2) (by lia)
   have e:=Co (N j / 64) (b:=(rF N j:Int)+1-(pfg N j).2) (by lia)
   lia
  exact⟨base.1,base.2,h1,w⟩
theorem m8 (N:Nat->Int)(m:Nat):Rws (rF N) (rG N) m where
 f1:=λi _=>by rw[dQ3,bN9];lia
 f2:=λi _=>(bF6 N i).2.2.1
 g1:=λi _=>by rw[dO6,cI4];lia
 g2:=λi _=>(bF6 N i).2.2.2
end TT
namespace K34
open PySem L2 LV PyProof.Rows
theorem sc__law_built:C1 ["_law_cell", "_law_cells", "_law_m", "_law_first", "_law_second", "_law_rest", "_law_i", "_law_number", "_law_low", "_law_turns", "_law_outs", "_law_names_here", "_law_called", "_law_triples", "_law_v"] ["_law_cell", "_law_cells", "_law_m"] (B2 i7):={}
def rr (c:Int)(j:Nat):Int:=if c % 2=1 then rs c j else c / 2
def nu (c:Int)(cells:List Int)(j:Nat):Int:=if c % 2=1 then rs c j % 4096 else mx (cl cells j) j
def nf (c:Int)(m:Nat)(v:Nat):Nat:=(nm c m).getD v 0
def cM7 (ds:List PyData)(d:PyData):Prop:=∃(c:Int) (cells:List Int) (m:Nat) (dr tr:List (List Nat)),m<=7/\TT.Bt (TT.rF (nu c cells)) (TT.rG (nu c cells)) m (nf c m) dr tr/\ds=[.int c,lI cells,.int (m:Int)]/\d=.tuple [.tuple (dr.map tN),.tuple (tr.map tN)]
def rb (c:Int)(cells:List Int)(m:Nat)(f g:List Int)(r:Int)(x6 x7 x8:Sl):List Sl:=[.val (.int c),.val (lI cells),.val (.int (m:Int)),.own (f.map PyData.int),.own (g.map PyData.int),.val (.int r),x6,x7,x8,.no,.no,.no,.no,.no,.no]
theorem dE4 (e:x6.nb=true)(w:x7.nb=true)(z:x8.nb=true):M9 (rb c cells m f g r x6 x7 x8)=true:=by
 unfold rb;simp only[i6,e,w,z,Bool.true_and];rfl
theorem aQ7 (F:Nat->Nat)(j:Nat):fl F (j+1)=fl F j++[(F j:Int)]:=by simp[fl,Cn]
def rc (c:Int)(cells:List Int)(m:Nat)(x3 x4 r:PyData)(x6 x7 x8:Sl)(tD oD:PyData)(nmD L T:List PyData)(x14:Sl):List Sl:=[.val (.int c),.val (lI cells),.val (.int (m:Int)),.val x3,.val x4,.val r,x6,x7,x8,.val tD,.val oD,.own nmD,.own L,.own T,x14]
theorem dE7 {c:Int}{cells:List Int}{m:Nat}{x3 x4 r:PyData}{x6 x7 x8:Sl}{tD oD:PyData}{nmD L T:List PyData}{x14:Sl}(w:x6.nb=true)(z:x7.nb=true)(s:x8.nb=true)(e:x14.nb=true):M9 (rc c cells m x3 x4 r x6 x7 x8 tD oD nmD L T x14)=true:=by
 unfold rc;simp only[i6,w,z,s,e,Bool.true_and];rfl
def f3 (f:Nat->Nat):PyData->Option PyData
 | .int k=>some (.int (f k.toNat:Nat))
 | _=>none
theorem cO5 (f:Nat->Nat)(l:List Nat):(nI l).filterMap (f3 f)=nI (l.map f):=by
 unfold nI;rw[Cm,Ae2,<- List.filterMap_eq_map];exact R3 λx _=>rfl
theorem aU1 (a:α):∀n:Nat,(List.replicate n [a]).flatten=List.replicate n a
 | 0=>rfl
 | n+1=>by rw[Bx,Ck,aU1 a n];rfl
theorem EF.to {K:Frag}{t:TE}{ρ:List Sl}{ds es:List PyData}(h:LV.EF K t ρ ds)(e:ds=es):LV.EF K t ρ es:=e▸h
theorem dL3 {F G:Nat->Nat}{m v:Nat}(R:TT.Rws F G m)(s:v<m+3):(TT.gst F G m).row v≠[]:=by
 have e:=TT.N9 R m (Aa7 _)
 obtain⟨p,hp⟩:=e.inv.pe;by_cases w:v=0
 .subst w;rw[TT.aF8];simp
 .by_cases h1:v=1
  .subst h1;rw[TT.aU6];simp
  .by_cases z:v=2
   .subst z;rw[TT.aK5,hp];simp
   .rw[TT.N5 (by lia) (by rw[e.k];exact s)];simp
theorem bV3 {c:Int}{m p:Nat}(h:p<m+3):atI (nI (nm c m)) (p:Int)=some (.int (nf c m p:Nat)):=by
 refine W2 p rfl ?_;unfold nI nf;rw[Aa9,Ac0,Aa2 (by rw[dM8];exact h)];rfl
theorem bP2 {L:List PyData}{f:Nat->Nat}{n j:Nat}{g:Nat->PyData}{x:PyData}(w:f j<L.length)(inj:∀v,v<j->f v≠f j)(h:∀v,v<j->L[f v]? = some (g v))(s:x=g j):∀v,v<j+1->(L.set (f j) x)[f v]? = some (g v):=λv m=>by
 by_cases e:v=j
 .subst e;rw[Bh w,s]
 .rw[Ad0 (λz=>inj v (by lia) z.symm)];exact h v (by lia)
theorem aX8 (e:imm x=true):∀{L:List PyData} (n:Nat),G5 L=true->G5 (L.set n x)=true
 | [],_,h=>h
 | a::L,0,h=>by simp[G5]at h ⊢;exact⟨e,h.2⟩
 | a::L,n+1,h=>by simp[G5]at h ⊢;exact⟨h.1,aX8 e n h.2⟩
theorem cO6 (l:List Nat):imm (tN l)=true:=by unfold tN;simp[imm,J6]
theorem nd3:(["_law_place", "_law_names_here"]:List Str).Nodup:=by decide +kernel
section
variable {P:Program}{w:World}{K:Frag}{mg:Str->Option Value}{base:Heap}{a:Ad}
theorem cJ7 (T:Tx K mg a):D2 P w K mg base CX0 3 a.aF9 a.aL1 ["_law_cell", "_law_cells", "_law_m"] (spV K cM7):=by
 have R:D2 P w K mg base CX0 1 _ _ _ _:=aK9 T
 have U:D2 P w K mg base CX0 1 _ _ _ _:=bZ9 T
 have M:D2 P w K mg base CX0 1 _ _ _ _:=cH2 T
 have D:D2 P w K mg base CX0 2 _ _ _ _:=cU0 T
 have J:D2 P w K mg base CX0 1 _ _ _ _:=bL5 T
 refine T.aH7.F.ok sc__law_built (X3 λds d ⟨_,_,_,_,_,_,_,e,_⟩=>by rw[e];rfl) (λcdv A outer s H vs Q E hr h=>?_)
 obtain⟨ds,S,d,hS,r,⟨c,Y,m,dr,tr,hm,B,rfl,rfl⟩,q⟩:=h;refine⟨_,(A3 (psS 3 sc__law_built (C4 A2))
   (A3 (psS 4 sc__law_built (C4 A2))
   (A3 (psS 5 sc__law_built (B4 aA9 (pv 0) A4))
   (A3 (G3 An rfl (G9 rfl T.L4 (A0 (pv 2) A2)) (pgN 6 sc__law_built) (A3 (psS 7 sc__law_built (pcl R hr T.N8 (A0 (pcl U hr T.N2 (A0 (pv 1) (A0 (pv 6) A2))) (A0 (pv 6) A2))))
   (A3 (O1 (C3 bB5 (B4 U1 (pv 0) A4) A4 (F8 _)) (A3 (psS 7 sc__law_built (B4 U1 (pv 5) A4))
   (A8 (psS 5 sc__law_built (B4 aA9 (pv 5) A4)))) F3)
   (A3 (psS 8 sc__law_built (bK7 (C3 aS7 (pv 6) A4 (F8 _)) (B1 C2 (pv 3) (aO9 w9 A4) (λ_ _=>rfl)) A4))
   (A3 (F0 (K9 Ab1 Ah Ag D5 (pv 3) (A0 (B4 G4 (pv 8) (B4 U1 (pv 7) (B4 N4 (B4 G4 (pv 6) A4) (pv 8)))) A2)))
   (A3 (psS 8 sc__law_built (bK7 (C3 aS7 (pv 6) A4 (F8 _)) (B1 C2 (pv 4) (aO9 w9 A4) (λ_ _=>rfl)) A4))
   (A8 (F0 (K9 Ab1 Ah Ag D5 (pv 4) (A0 (B4 G4 (pv 8) (B4 U1 (B4 aA9 (pv 7) A4) (B4 N4 (B4 G4 (B1 C2 (pv 3) (aO9 w9 A4) (λ_ _=>rfl)) A4) (pv 8)))) A2))))))))))
   (A3 (aM0 (pcl M hr T.aK4 (A0 (pv 3) (A0 (pv 4) A2))) (Y5 (n:=2) rfl (E4 (pgN 9 sc__law_built) (E4 (pgN 10 sc__law_built) S4))))
   (A3 (aN5 (i:=11) sc__law_built.nd rfl (Or.inr rfl) (pcl D hr T.aJ4 (A0 (pv 0) (A0 (pv 2) A2))))
   (A3 (psS 12 sc__law_built (B4 cN8 (C4 (A0 (D6 A2) A2)) (B4 G4 (pv 2) A4)))
   (A3 (psS 13 sc__law_built (B4 cN8 (C4 (A0 (D6 A2) A2)) (pv 2)))
   (A3 (G3 An rfl (G9 rfl T.L4 (A0 (B4 G4 (pv 2) A4) A2)) (pgN 14 sc__law_built) (A8 (aM0 (pcl J hr T.k8 (A0 (M3 (T:=["_law_place"]) (N':=["_law_place", "_law_names_here"]) (is:=[11]) rfl (.of rfl rfl rfl (by exact⟨rfl,trivial⟩) rfl rfl rfl (by first | exact⟨⟨_,rfl,.inl rfl,.inl rfl⟩,trivial⟩ | exact⟨⟨_,rfl,.inr rfl,.inl rfl⟩,trivial⟩)) (S7 (B1 C2 (pv 9) (pv 14) (λ_ _=>rfl))) (L5 (by decide)) λ_ _ _ _=>⟨(K4 (i:=0) nd3 rfl (Or.inl rfl)),N3,(B1 (ixK K) (pv 1) (pv 0) (λ_ _=>rfl))⟩) A2)) (bR0 (pv 12) (B1 C2 (pv 11) (pv 14) (λ_ _=>rfl)) aY2))))
   (A3 (G3 An rfl (G9 rfl T.L4 (A0 (pv 2) A2)) (pgN 14 sc__law_built) (A8 (aM0 (E3 O6 (by rfl) T.M1 boot_tuple (A0 (M3 (T:=["_law_place"]) (N':=["_law_place", "_law_names_here"]) (is:=[11]) rfl (.of rfl rfl rfl (by exact⟨rfl,trivial⟩) rfl rfl rfl (by first | exact⟨⟨_,rfl,.inl rfl,.inl rfl⟩,trivial⟩ | exact⟨⟨_,rfl,.inr rfl,.inl rfl⟩,trivial⟩)) (S7 (B1 C2 (pv 10) (pv 14) (λ_ _=>rfl))) (L5 (by decide)) λ_ _ _ _=>⟨(K4 (i:=0) nd3 rfl (Or.inl rfl)),N3,(B1 (ixK K) (pv 1) (pv 0) (λ_ _=>rfl))⟩) A2)) (bR0 (pv 13) (B4 N4 (B1 C2 (pv 11) (B4 G4 A4 (pv 14)) (λ_ _=>rfl)) A4) aY2))))
   (A8 (D0 (D6 (A0 (E3 O6 (by rfl) T.M1 boot_tuple (A0 (pv 12) A2)) (A0 (E3 O6 (by rfl) T.M1 boot_tuple (A0 (pv 13) A2)) A2))))))))))))))),K8 hS r ?_ q⟩
 generalize hN:nu c Y=N at B;refine A9 (F9 (E9 A5) ?_ (show 3<15 by decide))
 refine A9 (F9 (E9 A5) ?_ (show 4<15 by decide))
 refine A9 (E7 (d:=.int (c / 2)) (e_i (A6 rfl) A7 ⟨by decide,by decide⟩) ?_)
 have r0:rr c 0=c / 2:=by unfold rr rs;split <;> rfl
 rw[<- r0];refine A9 (N0 (R9 (A1 (A6 rfl) A5) ?_ ?_) (λj ρ=>∃x6 x7 x8,(x6.nb=true/\x7.nb=true/\x8.nb=true)/\ρ=rb c Y m (fl (TT.rF N) j) (fl (TT.rG N) j) (rr c j) x6 x7 x8) ⟨.no,.no,.no,⟨rfl,rfl,rfl⟩,rfl⟩ ?_ ?_)
 .lia
 .lia
 .rintro j d _ hd ⟨x6,x7,x8,⟨b6,b7,b8⟩,rfl⟩;obtain⟨rfl,hj⟩:=S3 hd;have hj:j<m:=by lia
  have PF:=TT.bF6 N j
  have nuj:N j=nu c Y j:=by rw[hN]
  have nn:0<=N j:=by
   rw[nuj];unfold nu;split
   .exact Co _ (by decide)
   .exact(dW5 _ _).1
  refine⟨_,B7,?_⟩;refine A9 (E7 (d:=.int (mx (cl Y j) j)) (C8 (A1 (C8 (A1 (A6 rfl) (A1 (A6 rfl) A5)) ⟨Y,j,by lia,rfl,rfl⟩) (A1 (A6 rfl) A5)) ⟨_,j,by lia,rfl,rfl⟩) ?_)
  show W K _ (rb c Y m (fl (TT.rF N) j) (fl (TT.rG N) j) (rr c j) (.val (.int (j:Int))) (.val (.int (mx (cl Y j) j))) x8) _
  refine A9 (cO3 (rb c Y m (fl (TT.rF N) j) (fl (TT.rG N) j) (rr c (j+1)) (.val (.int (j:Int))) (.val (.int (N j))) x8) (C5 (aD5 (e_i (A6 rfl) A7 (by decide)) A7)) (λh=>A9 (E7 (d:=.int (rr c j % 4096)) (e_i (A6 rfl) A7 (by decide)) (E7 (d:=.int (rr c j / 4096)) (e_i (A6 rfl) A7 ⟨by decide,by decide⟩) ?_))) (λh=>J5 ?_) ?_)
  .have h:c % 2=1:=Ax h
   have e1:rr c (j+1)=rr c j / 4096:=by unfold rr;rw[Ae h,Ae h];rfl
   have e2:N j=rr c j % 4096:=by rw[nuj];unfold nu rr;rw[Ae h,Ae h]
   rw[e1,e2];rfl
  .have h:¬c % 2=1:=Bu h
   have e1:rr c (j+1)=rr c j:=by unfold rr;rw[Ac h,Ac h]
   have e2:N j=mx (cl Y j) j:=by rw[nuj];unfold nu;rw[Ac h]
   rw[e1,e2]
  have low:∀(X:Nat->Nat) (p:Nat),p=TT.pv X j->((j:Int)>0->atI ((fl X j).map PyData.int) (-1)=some (.int (p:Int))):=λX p hp h=>by
   obtain⟨i,rfl⟩:∃i,j=i+1:=⟨j-1,by lia⟩
   rw[aQ7,Ad2,hp];exact aH5
  refine A9 (E7 (d:=.int ((TT.pfg N j).1:Nat)) (dU5 (C5 (aX3 (A6 rfl) A7)) (λh=>LV.E.imm (D9 (K0 rfl) (aO6 A7) rfl (low (TT.rF N) _ (TT.dQ3 N j).symm (Ax h)))) (λh=>?_)) ?_)
  .have h:¬(j:Int)>0:=Bu h
   have:j=0:=by lia
   subst this;exact A7
  show W K _ (rb c Y m (fl (TT.rF N) j) (fl (TT.rG N) j) (rr c (j+1)) (.val (.int (j:Int))) (.val (.int (N j))) (.val (.int ((TT.pfg N j).1:Nat)))) _
  have eF:((TT.pfg N j).1:Int)+N j % ((j:Int)+1-((TT.pfg N j).1:Int))=(TT.rF N j:Int):=by
   rw[TT.bN9]
   have:=Co (N j) (b:=(j:Int)+1-(TT.pfg N j).1) (by lia)
   lia
  refine A9 (K2 rfl (K5 (A6 rfl) (e_i (A6 rfl) (K5 (K5 (A6 rfl) A7) (A6 rfl)) (by lia))) (by rw[Aa3];simp[fl];unfold PySem.sizeLine;lia) ?_ (dE4 rfl rfl rfl))
  rw[eF];have eF2:(fl (TT.rF N) j).map PyData.int++[PyData.int (TT.rF N j:Int)]=(fl (TT.rF N) (j+1)).map PyData.int:=by rw[aQ7];simp
  rw[eF2];show W K _ (rb c Y m (fl (TT.rF N) (j+1)) (fl (TT.rG N) j) (rr c (j+1)) (.val (.int (j:Int))) (.val (.int (N j))) (.val (.int ((TT.pfg N j).1:Nat)))) _;refine A9 (E7 (d:=.int ((TT.pfg N j).2:Nat)) (dU5 (C5 (aX3 (A6 rfl) A7)) (λh=>LV.E.imm (D9 (K0 rfl) (aO6 A7) rfl (low (TT.rG N) _ (TT.dO6 N j).symm (Ax h)))) (λh=>?_)) ?_)
  .have h:¬(j:Int)>0:=Bu h
   have:j=0:=by lia
   subst this;exact A7
  show W K _ (rb c Y m (fl (TT.rF N) (j+1)) (fl (TT.rG N) j) (rr c (j+1)) (.val (.int (j:Int))) (.val (.int (N j))) (.val (.int ((TT.pfg N j).2:Nat)))) _
  have rFj:TT.rF N j=(TT.pfg N (j+1)).1:=rfl
  have rFle:(TT.pfg N j).1<=TT.rF N j:=by rw[TT.bN9];lia
  have eG:((TT.pfg N j).2:Int)+N j / 64 % ((TT.rF N j:Int)+1-((TT.pfg N j).2:Int))=(TT.rG N j:Int):=by
   rw[TT.cI4]
   have:=Co (N j / 64) (b:=(TT.rF N j:Int)+1-(TT.pfg N j).2) (by lia)
   lia
  have hlF:atI ((fl (TT.rF N) (j+1)).map PyData.int) (-1)=some (.int (TT.rF N j:Int)):=by rw[aQ7,Ad2];exact aH5
  refine K2 rfl (K5 (A6 rfl) (e_i (e_i (A6 rfl) A7 ⟨by decide,by decide⟩) (K5 (K5 (D9 (K0 rfl) (aO6 A7) rfl hlF) A7) (A6 rfl)) (by lia))) (by rw[Aa3];simp[fl];unfold PySem.sizeLine;lia) ?_ (dE4 rfl rfl rfl)
  rw[eG];have eG2:(fl (TT.rG N) j).map PyData.int++[PyData.int (TT.rG N j:Int)]=(fl (TT.rG N) (j+1)).map PyData.int:=by rw[aQ7];simp
  rw[eG2];exact⟨.val (.int (j:Int)),.val (.int (N j)),.val (.int ((TT.pfg N j).2:Nat)),⟨rfl,rfl,rfl⟩,rfl⟩
 rintro _ ⟨x6,x7,x8,⟨b6,b7,b8⟩,rfl⟩;rw[N7,Ac8];refine bA0 (i:=3) rfl (bA0 (i:=4) rfl ?_);refine A9 (cP8 (m:=true) (C8 (A1 (A6 rfl) (A1 (A6 rfl) A5)) ⟨TT.rF N,TT.rG N,m,TT.m8 N m,by lia,rfl,rfl⟩) (aD1 (F6 B7 (F6 B7 Y4))) ?_)
 refine A9 (F9 (S5 (A1 (A6 rfl) (A1 (A6 rfl) A5)) ⟨c,m,by lia,rfl,rfl⟩) ?_ (show 11<15 by decide))
 have ND:=B.N
 have LT:=(TT.N9 (TT.m8 N m) m (Aa7 _)).inv.lt
 have LR:=TT.row_len (TT.N9 (TT.m8 N m) m (Aa7 _)).inv
 rw[(TT.N9 (TT.m8 N m) m (Aa7 _)).k]at LT LR;refine A9 (F9 (ds:=List.replicate (m+3) (.tuple [])) ?_ ?_ (show 12<15 by decide))
 .refine EF.to (cR5 (k:=(m:Int)+3) (ds:=[.tuple []]) (E9 (A1 (F5 A5) A5)) (K5 (A6 rfl) A7) rfl (by lia) (by lia) ?_) ?_
  .show 1*((m:Int)+3).toNat<=_;unfold PySem.sizeLine;lia
  .have e:((m:Int)+3).toNat=m+3:=by lia
   rw[aU1,e]
 refine A9 (F9 (ds:=List.replicate m (.tuple [])) ?_ ?_ (show 13<15 by decide))
 .refine EF.to (cR5 (k:=(m:Int)) (ds:=[.tuple []]) (E9 (A1 (F5 A5) A5)) (A6 rfl) rfl (by lia) (by lia) ?_) ?_
  .show 1*(m:Int).toNat<=_;unfold PySem.sizeLine;lia
  .rw[aU1,Ac8]
 generalize htD:(PyData.list ((List.range (m+3)).map λv=>lN ((TT.gst (TT.rF N) (TT.rG N) m).row v)))=tD
 generalize hoD:(PyData.list ((List.range m).map λv=>lN [(TT.gst (TT.rF N) (TT.rG N) m).o0 (v+3),(TT.gst (TT.rF N) (TT.rG N) m).o1 (v+3),(TT.gst (TT.rF N) (TT.rG N) m).o2 (v+3)]))=oD
 show W K _ (rc c Y m (lI (fl (TT.rF N) m)) (lI (fl (TT.rG N) m)) (.int (rr c m)) x6 x7 x8 tD oD (nI (nm c m)) (List.replicate (m+3) (.tuple [])) (List.replicate m (.tuple [])) .no) _
 have sqt:sq tD=some ((List.range (m+3)).map λv=>lN ((TT.gst (TT.rF N) (TT.rG N) m).row v)):=by rw[<- htD];rfl
 have sqo:sq oD=some ((List.range m).map λv=>lN [(TT.gst (TT.rF N) (TT.rG N) m).o0 (v+3),(TT.gst (TT.rF N) (TT.rG N) m).o1 (v+3),(TT.gst (TT.rF N) (TT.rG N) m).o2 (v+3)]):=by rw[<- hoD];rfl
 have imr:∀n:Nat,G5 (List.replicate n (PyData.tuple []))=true:=λn=>by
  induction n with
  | zero=>rfl
  | succ n ih=>rw[Bx];simp[G5,ih];rfl
 refine A9 (N0 (R9 (A1 (K5 (A6 rfl) A7) A5) ?_ ?_) (λj ρ=>∃x14 L,x14.nb=true/\L.length=m+3/\G5 L=true/\(∀v,v<j->L[nf c m v]? = some (tN (TT.R4 (((TT.gst (TT.rF N) (TT.rG N) m).row v).map (nf c m)))))/\ρ=rc c Y m (lI (fl (TT.rF N) m)) (lI (fl (TT.rG N) m)) (.int (rr c m)) x6 x7 x8 tD oD (nI (nm c m)) L (List.replicate m (.tuple [])) x14) ⟨.no,_,rfl,by simp,imr _,λv hv=>by lia,rfl⟩ ?_ ?_)
 .lia
 .lia
 .rintro j d _ hd ⟨x14,L,b14,hL,hiL,hv,rfl⟩;obtain⟨rfl,hj⟩:=S3 hd;have hj:j<m+3:=by lia
  refine⟨_,B7,?_⟩;show W K _ (rc c Y m (lI (fl (TT.rF N) m)) (lI (fl (TT.rG N) m)) (.int (rr c m)) x6 x7 x8 tD oD (nI (nm c m)) L (List.replicate m (.tuple [])) (.val (.int (j:Int)))) _;have cm:=M4 (K:=K) (m:=true) (ρ:=rc c Y m (lI (fl (TT.rF N) m)) (lI (fl (TT.rG N) m)) (.int (rr c m)) x6 x7 x8 tD oD (nI (nm c m)) L (List.replicate m (.tuple [])) (.val (.int (j:Int)))) (n:=1) (is:=[11]) (g:=G7 0) (tt:=aN0) (te:=tOp (rIx K) (D7 1) (D7 0)) (f3 (nf c m)) (Z1 (ds:=nI ((TT.gst (TT.rF N) (TT.rG N) m).row j)) (D9 (A6 (i:=9) rfl) (A6 (i:=14) rfl) sqt (aG3 hj))) (by rw[E5];have:=LR j;unfold PySem.sizeLine;lia) (λd hd=>by
   obtain⟨p,hp,rfl⟩:=Aa8.mp hd;exact⟨_,B7,y0,LV.E.imm (d:=.int (nf c m p:Nat)) (D9 (cI7 rfl) (A6 rfl) rfl (bV3 (LT j p hp)))⟩)
  rw[cO5]at cm;refine cP9 (nf c m j) (C8 (A1 (EF.e' cm) A5) ⟨_,?_,?_,rfl,rfl⟩) rfl (D9 (K0 rfl) (A6 rfl) rfl (bV3 hj)) rfl ?_ ⟨.val (.int (j:Int)),L.set (nf c m j) (tN (TT.R4 (((TT.gst (TT.rF N) (TT.rG N) m).row j).map (nf c m)))),rfl,by rw[Eb];exact hL,aX8 (cO6 _) _ hiL,bP2 (n:=0) (by rw[hL];exact ND.lt j hj) (λv hv e=>by have:=ND.inj v j (by lia) hj e;lia) hv rfl,rfl⟩ (dE7 b6 b7 b8 rfl)
  .intro e;exact dL3 (TT.m8 N m) hj (List.map_eq_nil_iff.mp e)
  .rw[Aa3];have:=LR j;lia
  .rw[hL];exact ND.lt j hj
 rintro _ ⟨x14,L,b14,hL,hiL,hv,rfl⟩;have e3:(Z6 0 ((m:Int)+3).toNat).length=m+3:=by rw[N7];lia
 rw[e3]at hv;refine A9 (N0 (R9 (A1 (A6 rfl) A5) ?_ ?_) (λj ρ=>∃x14 T,x14.nb=true/\T.length=m/\G5 T=true/\(∀v,v<j->T[nf c m (v+3)-3]? = some (tN [nf c m ((TT.gst (TT.rF N) (TT.rG N) m).o0 (v+3)),nf c m ((TT.gst (TT.rF N) (TT.rG N) m).o1 (v+3)),nf c m ((TT.gst (TT.rF N) (TT.rG N) m).o2 (v+3))]))/\ρ=rc c Y m (lI (fl (TT.rF N) m)) (lI (fl (TT.rG N) m)) (.int (rr c m)) x6 x7 x8 tD oD (nI (nm c m)) L T x14) ⟨x14,_,b14,by simp,imr _,λv hv=>by lia,rfl⟩ ?_ ?_)
 .lia
 .lia
 .rintro j d _ hd ⟨y14,T',c14,hT,hiT,hvT,rfl⟩;obtain⟨rfl,hj⟩:=S3 hd;have hj:j<m:=by lia
  refine⟨_,B7,?_⟩;have rI:(TT.gst (TT.rF N) (TT.rG N) m).row (j+3)=_:=TT.N5 (by lia) (by rw[(TT.N9 (TT.m8 N m) m (Aa7 _)).k];lia)
  have l0:(TT.gst (TT.rF N) (TT.rG N) m).o0 (j+3)<m+3:=LT (j+3) _ (by rw[rI];simp)
  have l1:(TT.gst (TT.rF N) (TT.rG N) m).o1 (j+3)<m+3:=LT (j+3) _ (by rw[rI];simp)
  have l2:(TT.gst (TT.rF N) (TT.rG N) m).o2 (j+3)<m+3:=LT (j+3) _ (by rw[rI];simp)
  have ge3:3<=nf c m (j+3):=by
   have:=ND.lo (by lia) (q:=j+3) (by lia)
   lia
  have lt3:nf c m (j+3)<m+3:=ND.lt (j+3) (by lia)
  have hat:atI (nI (nm c m)) (3+(j:Int))=some (.int (nf c m (j+3):Nat)):=by
   rw[show(3:Int)+(j:Int)=((j+3:Nat):Int) by lia];exact bV3 (by lia)
  show W K _ (rc c Y m (lI (fl (TT.rF N) m)) (lI (fl (TT.rG N) m)) (.int (rr c m)) x6 x7 x8 tD oD (nI (nm c m)) L T' (.val (.int (j:Int)))) _
  have cm:=M4 (K:=K) (m:=true) (ρ:=rc c Y m (lI (fl (TT.rF N) m)) (lI (fl (TT.rG N) m)) (.int (rr c m)) x6 x7 x8 tD oD (nI (nm c m)) L T' (.val (.int (j:Int)))) (n:=1) (is:=[11]) (g:=G7 0) (tt:=aN0) (te:=tOp (rIx K) (D7 1) (D7 0)) (f3 (nf c m)) (Z1 (ds:=nI [(TT.gst (TT.rF N) (TT.rG N) m).o0 (j+3),(TT.gst (TT.rF N) (TT.rG N) m).o1 (j+3),(TT.gst (TT.rF N) (TT.rG N) m).o2 (j+3)]) (D9 (A6 (i:=10) rfl) (A6 (i:=14) rfl) sqo (aG3 hj))) (by rw[E5];show 3<_;unfold PySem.sizeLine;lia) (λd hd=>by
   obtain⟨p,hp,rfl⟩:=Aa8.mp hd;have hp:p<m+3:=by
    rcases Aa1.mp hp with rfl | hp
    .exact l0
    .rcases Aa1.mp hp with rfl | hp
     .exact l1
     .rw[Ad8.mp hp];exact l2
   exact⟨_,B7,y0,LV.E.imm (d:=.int (nf c m p:Nat)) (D9 (cI7 rfl) (A6 rfl) rfl (bV3 hp))⟩)
  rw[cO5]at cm;refine cP9 (nf c m (j+3)-3) (Q0 (A1 (EF.e' cm) A5) (J6 _)) rfl (K5 (D9 (K0 rfl) (K5 A7 (A6 rfl)) rfl hat) A7) (by lia) ?_ ⟨.val (.int (j:Int)),T'.set (nf c m (j+3)-3) (tN [nf c m ((TT.gst (TT.rF N) (TT.rG N) m).o0 (j+3)),nf c m ((TT.gst (TT.rF N) (TT.rG N) m).o1 (j+3)),nf c m ((TT.gst (TT.rF N) (TT.rG N) m).o2 (j+3))]),rfl,by rw[Eb];exact hT,aX8 (cO6 _) _ hiT,bP2 (n:=0) (f:=λv=>nf c m (v+3)-3) (g:=λv=>tN [nf c m ((TT.gst (TT.rF N) (TT.rG N) m).o0 (v+3)),nf c m ((TT.gst (TT.rF N) (TT.rG N) m).o1 (v+3)),nf c m ((TT.gst (TT.rF N) (TT.rG N) m).o2 (v+3))]) (by rw[hT];show nf c m (j+3)-3<m;lia) (λv hv e=>by
   have e:nf c m (v+3)-3=nf c m (j+3)-3:=e
   have g3:=ND.lo (by lia) (q:=v+3) (by lia)
   have:=ND.inj (v+3) (j+3) (by lia) (by lia) (by lia)
   lia) hvT rfl,rfl⟩ (dE7 b6 b7 b8 rfl)
  rw[hT];lia
 rintro _ ⟨y14,T',c14,hT,hiT,hvT,rfl⟩;rw[N7,Ac8]at hvT;refine L6 (F5 (A1 (Q0 (A1 (K0 rfl) A5) hiL) (A1 (Q0 (A1 (K0 rfl) A5) hiT) A5))) ?_;have eL:L=dr.map tN:=by
  refine List.ext_getElem? λz=>?_
  by_cases hz:z<m+3
  .obtain⟨v,hv1,rfl⟩:=ND.surj z hz;rw[hv v hv1,Aa9,B.dr v hv1];rfl
  .rw[Ad6 (by lia),Ad6 (by rw[Aa3,B.dl];lia)]
 have eT:T'=tr.map tN:=by
  refine List.ext_getElem? λz=>?_
  by_cases hz:z<m
  .obtain⟨v,hv1,hv2⟩:=ND.surj (z+3) (by lia)
   have h3:3<=v:=by
    have:=ND.lo (by lia) hv1
    lia
   obtain⟨u,rfl⟩:∃u,v=u+3:=⟨v-3,by lia⟩
   have hzz:z=nf c m (u+3)-3:=by lia
   rw[hzz,hvT u (by lia),Aa9,B.tr (u+3) h3 hv1];rfl
  .rw[Ad6 (by lia),Ad6 (by rw[Aa3,B.tl];lia)]
 rw[eL,eT]
end
theorem dT7 {F G:Nat->Nat}{m:Nat}{f:Nat->Nat}(R:TT.Rws F G m)(N:TT.Nm (m+3) f):∃dr tr,TT.Bt F G m f dr tr:=by
 have s:∀q,∃v,q<m+3->v<m+3/\f v=q:=λq=>by
  by_cases h:q<m+3
  .obtain⟨v,h1,U⟩:=N.surj q h;exact⟨v,λ_=>⟨h1,U⟩⟩
  .exact⟨0,λz=>absurd z h⟩
 have ⟨g,X⟩:∃g:Nat->Nat,∀q,q<m+3->g q<m+3/\f (g q)=q:=⟨λq=>Classical.choose (s q),λq h=>Classical.choose_spec (s q) h⟩
 have Y:∀v,v<m+3->g (f v)=v:=λv w=>N.inj _ _ (X _ (N.lt v w)).1 w (X _ (N.lt v w)).2
 refine⟨(List.range (m+3)).map λq=>TT.R4 (((TT.gst F G m).row (g q)).map f),(List.range m).map λq=>[f ((TT.gst F G m).o0 (g (q+3))),f ((TT.gst F G m).o1 (g (q+3))),f ((TT.gst F G m).o2 (g (q+3)))],R,N,by simp,λv w=>?_,by simp,λv J w=>?_⟩
 .rw[O3 (N.lt v w),Y v w]
 .have h:=N.lo (by lia) w
  have M:=N.lt v w
  rw[O3 (by lia)]
  have e:f v-3+3=f v:=by lia
  rw[e,Y v w]
end K34
namespace TT
variable {F G:Nat->Nat}{m:Nat}{f:Nat->Nat}{d t:List (List Nat)}
end TT
namespace LV
open PySem PyProof.Rows L2
theorem bW3 [DecidableEq α]:∀{l m:List α},l.Nodup->(∀x∈l,x∈m)->l.length<=m.length
 | [],_,_,_=>Ci _
 | a::l,m,nd,h=>by
  obtain⟨h1,s⟩:=Aa5.mp nd;have w:=h a (by simp)
  have:=bW3 (l:=l) (m:=m.erase a) s λx z=>(List.mem_erase_of_ne (show x≠a from λe=>h1 (by rw[<- e];exact z))).mpr (h x (by simp[z]))
  rw[Dc w]at this
  have:=Di w
  simp;lia
end LV
namespace TT
variable {F G:Nat->Nat}{m:Nat}{f:Nat->Nat}{d t:List (List Nat)}
structure Lnk (s:S):Prop where
 l0:∀q x,x∈s.i0 q->3<=x/\x<s.k+3/\s.o0 x=q
 l1:∀q x,x∈s.i1 q->3<=x/\x<s.k+3/\s.o1 x=q
 l2:∀q x,x∈s.i2 q->3<=x/\x<s.k+3/\s.o2 x=q/\3<=q
theorem bC4 (R:Rws F G m):∀i,i<=m->∀q,i+3<=q->(gst F G i).i2 q=[]
 | 0,_,_,_=>rfl
 | i+1,hi,q,hq=>by
  have e:=bH4 R (i:=i) (by lia)
  have w:(gst F G i).k=i:=e.k
  show put (gst F G i).i2 ((gst F G i).k+3) _ q=[]
  rw[B6 (by lia)]
  exact bC4 R i (by lia) q (by lia)
structure Knl (s:S):Prop where
 k0:∀x,3<=x->x<s.k+3->x∈s.i0 (s.o0 x)
 k1:∀x,3<=x->x<s.k+3->x∈s.i1 (s.o1 x)
 k2:∀x,3<=x->x<s.k+3->s.o2 x≠2->x∈s.i2 (s.o2 x)
theorem bZ0 {f:Nat->List Nat}{a q x:Nat}{l:List Nat}(h:x∈f q)(w:∀y∈f a,y∈l):x∈put f a l q:=by
 by_cases e:q=a
 .subst e;rw[B5];exact w x h
 .rw[B6 e];exact h
theorem bZ5 (R:Rws F G m):∀i,i<=m->Knl (gst F G i)
 | 0,_=>⟨λx h1 s=>absurd s (by show ¬x<0+3;lia),λx h1 s=>absurd s (by show ¬x<0+3;lia),λx h1 s=>absurd s (by show ¬x<0+3;lia)⟩
 | i+1,hi=>by
  have L:=bZ5 R i (by lia)
  have M:=bH4 R (i:=i) (by lia)
  have Q:(gst F G i).k=i:=M.k
  refine⟨λx Y w=>?_,λx Y w=>?_,λx Y w=>?_⟩
  .have w:x<(gst F G i).k+1+3:=w
   show x∈put (gst F G i).i0 (((gst F G i).path.drop (F i-pv F i)).headD 0) ((gst F G i).i0 (((gst F G i).path.drop (F i-pv F i)).headD 0)++[(gst F G i).k+3]) (put (gst F G i).o0 ((gst F G i).k+3) (((gst F G i).path.drop (F i-pv F i)).headD 0) x)
   by_cases e:x=(gst F G i).k+3
   .subst e;rw[B5,B5];simp
   .rw[B6 e];exact bZ0 (L.k0 x Y (by lia)) λy J=>Al _ J
  .have w:x<(gst F G i).k+1+3:=w
   show x∈put (gst F G i).i1 ((((gst F G i).h1 (F i-pv F i)).drop (G i-pv G i)).headD 0) ((gst F G i).i1 ((((gst F G i).h1 (F i-pv F i)).drop (G i-pv G i)).headD 0)++[(gst F G i).k+3]) (put (gst F G i).o1 ((gst F G i).k+3) ((((gst F G i).h1 (F i-pv F i)).drop (G i-pv G i)).headD 0) x)
   by_cases e:x=(gst F G i).k+3
   .subst e;rw[B5,B5];simp
   .rw[B6 e];exact bZ0 (L.k1 x Y (by lia)) λy J=>Al _ J
  .have w:x<(gst F G i).k+1+3:=w
   show(if x=(gst F G i).k+3 then 2 else if x∈((gst F G i).h1 (F i-pv F i)).take (G i-pv G i) then(gst F G i).k+3 else(gst F G i).o2 x)≠2->x∈put (gst F G i).i2 ((gst F G i).k+3) (((gst F G i).h1 (F i-pv F i)).take (G i-pv G i)) (if x=(gst F G i).k+3 then 2 else if x∈((gst F G i).h1 (F i-pv F i)).take (G i-pv G i) then(gst F G i).k+3 else(gst F G i).o2 x)
   by_cases e:x=(gst F G i).k+3
   .rw[Ae e];intro z;exact absurd rfl z
   .rw[Ac e];by_cases X:x∈((gst F G i).h1 (F i-pv F i)).take (G i-pv G i)
    .rw[Ae X,B5];exact λ_=>X
    .rw[Ac X];intro z;have U:=L.k2 x Y (by lia) z
     by_cases N:(gst F G i).o2 x=(gst F G i).k+3
     .exfalso
      have:=bC4 R i (by lia) ((gst F G i).o2 x) (by lia)
      rw[this]at U;cases U
     .rw[B6 N];exact U
theorem bY7 (R:Rws F G m):∀i,i<=m->Lnk (gst F G i)
 | 0,_=>⟨λq x h=>(nomatch h),λq x h=>(nomatch h),λq x h=>(nomatch h)⟩
 | i+1,hi=>by
  have L:=bY7 R i (by lia)
  have I:=N9 R i (by lia)
  have s:=bH4 R (i:=i) (by lia)
  have X:(gst F G i).k=i:=I.k
  refine⟨λq x h=>?_,λq x h=>?_,λq x h=>?_⟩
  .show 3<=x/\x<(gst F G i).k+1+3/\put (gst F G i).o0 ((gst F G i).k+3) _ x=q
   have h:x∈put (gst F G i).i0 (((gst F G i).path.drop (F i-pv F i)).headD 0) ((gst F G i).i0 (((gst F G i).path.drop (F i-pv F i)).headD 0)++[(gst F G i).k+3]) q:=h
   have w:x∈(gst F G i).i0 q->3<=x/\x<(gst F G i).k+1+3/\put (gst F G i).o0 ((gst F G i).k+3) (((gst F G i).path.drop (F i-pv F i)).headD 0) x=q:=λh=>by
    obtain⟨a,b,c⟩:=L.l0 q x h;exact⟨a,by lia,by rw[B6 (by lia)];exact c⟩
   by_cases e:q=((gst F G i).path.drop (F i-pv F i)).headD 0
   .subst e;rw[B5]at h;rcases Aa0.mp h with h | h
    .exact w h
    .rw[Ad8]at h;subst h;exact⟨by lia,by lia,B5⟩
   .rw[B6 e]at h;exact w h
  .show 3<=x/\x<(gst F G i).k+1+3/\put (gst F G i).o1 ((gst F G i).k+3) _ x=q
   have h:x∈put (gst F G i).i1 ((((gst F G i).h1 (F i-pv F i)).drop (G i-pv G i)).headD 0) ((gst F G i).i1 ((((gst F G i).h1 (F i-pv F i)).drop (G i-pv G i)).headD 0)++[(gst F G i).k+3]) q:=h
   have w:x∈(gst F G i).i1 q->3<=x/\x<(gst F G i).k+1+3/\put (gst F G i).o1 ((gst F G i).k+3) ((((gst F G i).h1 (F i-pv F i)).drop (G i-pv G i)).headD 0) x=q:=λh=>by
    obtain⟨a,b,c⟩:=L.l1 q x h;exact⟨a,by lia,by rw[B6 (by lia)];exact c⟩
   by_cases e:q=(((gst F G i).h1 (F i-pv F i)).drop (G i-pv G i)).headD 0
   .subst e;rw[B5]at h;rcases Aa0.mp h with h | h
    .exact w h
    .rw[Ad8]at h;subst h;exact⟨by lia,by lia,B5⟩
   .rw[B6 e]at h;exact w h
  .show 3<=x/\x<(gst F G i).k+1+3/\(if x=(gst F G i).k+3 then 2 else if x∈((gst F G i).h1 (F i-pv F i)).take (G i-pv G i) then(gst F G i).k+3 else(gst F G i).o2 x)=q/\3<=q
   have h:x∈put (gst F G i).i2 ((gst F G i).k+3) (((gst F G i).h1 (F i-pv F i)).take (G i-pv G i)) q:=h
   by_cases e:q=(gst F G i).k+3
   .subst e;rw[B5]at h;obtain⟨a,b⟩:=s.lo x h;exact⟨a,by lia,by rw[Ac (by lia),Ae h],by lia⟩
   .rw[B6 e]at h;obtain⟨a,b,c,d⟩:=L.l2 q x h;refine⟨a,by lia,?_,d⟩
    rw[Ac (by lia),Ac]
    .exact c
    .intro z;have Y:x∈(gst F G i).path\/x∈(gst F G i).heap:=by
      have:=Bn z
      unfold S.h1 at this;rcases Aa0.mp this with y | y
      .exact .inl (Bn (Dt.mp y))
      .exact .inr y
     have:=(I.inv.bd x Y).2 a
     lia
structure Rg (d t:List (List Nat))(n p:Nat)(a b c:List Nat):Prop where
 rot:∃u w,trn d p=u++w/\w++u=og t 0 p::(a++og t 1 p::(b++og t 2 p::c))
 nd:(og t 0 p::(a++og t 1 p::(b++og t 2 p::c))).Nodup
 ha:∀x∈a,3<=x/\x<n/\og t 2 x=p
 hb:∀x∈b,3<=x/\x<n/\og t 0 x=p
 hc:∀x∈c,3<=x/\x<n/\og t 1 x=p
 ka:∀x,3<=x->x<n->og t 2 x=p->x∈a
 kb:∀x,3<=x->x<n->og t 0 x=p->x∈b
 kc:∀x,3<=x->x<n->og t 1 x=p->x∈c
theorem Bt.ringv (B:Bt F G m f d t)(v3:3<=v)(M:v<m+3):Rg d t (m+3) (f v) (((gst F G m).i2 v).map f) (((gst F G m).i0 v).map f) (((gst F G m).i1 v).reverse.map f):=by
 have P:3<=f v:=by have:=B.N.lo (by lia) M;lia
 have I:=N9 B.R m (Aa7 _)
 have L:=bY7 B.R m (Aa7 _)
 have D:=bZ5 B.R m (Aa7 _)
 have U:(gst F G m).k=m:=I.k
 have hr:(gst F G m).row v=(gst F G m).o0 v::((gst F G m).i2 v++(gst F G m).o1 v::((gst F G m).i0 v++(gst F G m).o2 v::((gst F G m).i1 v).reverse)):=N5 v3 (by rw[U];exact M)
 have e0:TT.og t 0 (f v)=f ((gst F G m).o0 v):=B.og (c:=0) (by lia) v3 M
 have e1:TT.og t 1 (f v)=f ((gst F G m).o1 v):=B.og (c:=1) (by lia) v3 M
 have e2:TT.og t 2 (f v)=f ((gst F G m).o2 v):=B.og (c:=2) (by lia) v3 M
 have em:((gst F G m).row v).map f=TT.og t 0 (f v)::(((gst F G m).i2 v).map f++TT.og t 1 (f v)::(((gst F G m).i0 v).map f++TT.og t 2 (f v)::((gst F G m).i1 v).reverse.map f)):=by
  rw[hr,e0,e1,e2];simp
 have nd:(((gst F G m).row v).map f).Nodup:=aG4 B.N.inj (I.inv.nd v) λx J=>by have:=I.inv.lt v x J;lia
 refine⟨?_,?_,?_,?_,?_,λx P J e=>?_,λx P J e=>?_,λx P J e=>?_⟩
 .have ed:trn d (f v)=R4 (((gst F G m).row v).map f):=by unfold trn;rw[B.dr v M];rfl
  refine⟨(((gst F G m).row v).map f).drop ((((gst F G m).row v).map f).idxOf (mn (((gst F G m).row v).map f))),(((gst F G m).row v).map f).take ((((gst F G m).row v).map f).idxOf (mn (((gst F G m).row v).map f))),ed,?_⟩;rw[Ad3,em]
 .rw[<- em];exact nd
 .intro x J;obtain⟨y,w,rfl⟩:=Aa8.mp J;obtain⟨Y,X,Q,_⟩:=L.l2 v y w;rw[U]at X
  have:=B.N.lo (by lia) X
  exact⟨by lia,B.N.lt y X,by rw[B.og (c:=2) (by lia) Y X];show f ((gst F G m).o2 y)=_;rw[Q]⟩
 .intro x J;obtain⟨y,w,rfl⟩:=Aa8.mp J;obtain⟨Y,X,Q⟩:=L.l0 v y w;rw[U]at X
  have:=B.N.lo (by lia) X
  exact⟨by lia,B.N.lt y X,by rw[B.og (c:=0) (by lia) Y X];show f ((gst F G m).o0 y)=_;rw[Q]⟩
 .intro x J;obtain⟨y,w,rfl⟩:=Aa8.mp J;obtain⟨Y,X,Q⟩:=L.l1 v y (Dt.mp w);rw[U]at X
  have:=B.N.lo (by lia) X
  exact⟨by lia,B.N.lt y X,by rw[B.og (c:=1) (by lia) Y X];show f ((gst F G m).o1 y)=_;rw[Q]⟩
 .obtain⟨y,w,rfl⟩:=B.N.surj x J;have Y:3<=y:=by have:=B.N.lo (by lia) w;lia
  rw[B.og (c:=2) (by lia) Y w]at e
  have ho:=(bD9 (c:=2) (s:=gst F G m) (by lia) Y (by rw[U];exact w))
  have z:=I.inv.lt y _ ho
  have e':(gst F G m).o2 y=v:=B.N.inj _ _ (by rw[U]at z;exact z) M e
  have:=D.k2 y Y (by rw[U];exact w) (by lia)
  rw[e']at this;exact Aa8.mpr ⟨y,this,rfl⟩
 .obtain⟨y,w,rfl⟩:=B.N.surj x J;have Y:3<=y:=by have:=B.N.lo (by lia) w;lia
  rw[B.og (c:=0) (by lia) Y w]at e
  have ho:=(bD9 (c:=0) (s:=gst F G m) (by lia) Y (by rw[U];exact w))
  have z:=I.inv.lt y _ ho
  have e':(gst F G m).o0 y=v:=B.N.inj _ _ (by rw[U]at z;exact z) M e
  have:=D.k0 y Y (by rw[U];exact w)
  rw[e']at this;exact Aa8.mpr ⟨y,this,rfl⟩
 .obtain⟨y,w,rfl⟩:=B.N.surj x J;have Y:3<=y:=by have:=B.N.lo (by lia) w;lia
  rw[B.og (c:=1) (by lia) Y w]at e
  have ho:=(bD9 (c:=1) (s:=gst F G m) (by lia) Y (by rw[U];exact w))
  have z:=I.inv.lt y _ ho
  have e':(gst F G m).o1 y=v:=B.N.inj _ _ (by rw[U]at z;exact z) M e
  have:=D.k1 y Y (by rw[U];exact w)
  rw[e']at this;exact Aa8.mpr ⟨y,Dt.mpr this,rfl⟩
theorem Bt.ring (B:Bt F G m f d t)(w:3<=p)(hp:p<m+3):∃a b c,Rg d t (m+3) p a b c:=by
 obtain⟨v,e,rfl⟩:=B.N.surj p hp;have v3:3<=v:=by have:=B.N.lo (by lia) e;lia
 exact⟨_,_,_,B.ringv v3 e⟩
end TT
namespace TT
variable {F G:Nat->Nat}{m:Nat}{f:Nat->Nat}{d t:List (List Nat)}
inductive Sn (t:List (List Nat))(c n:Nat):Nat->Nat->Prop
 | zero {q:Nat}:q=c->Sn t c n q 0
 | succ {q k:Nat}:3<=q->q<n->Sn t c n (og t c q) k->Sn t c n q (k+1)
theorem Wy.st (w:Wy (og t c) q l):(∀x∈l,x<n)->(∃p,l=p++[c])->∃k,Sn t c n q k:=by
 induction w with
 | @corner q h=>
  intro _ ⟨p,e⟩;cases p with
  | nil=>simp at e;exact⟨0,.zero e⟩
  | cons x r=>simp at e
 | @step q l h w ih=>
  intro z ⟨p,e⟩;cases p with
  | nil=>
   simp at e
   cases w <;> simp at e
  | cons x r=>
   simp at e
   obtain⟨k,s⟩:=ih (λx Y=>z x (by simp[Y])) ⟨r,e.2⟩
   exact⟨k+1,.succ h (z q (by simp)) s⟩
theorem Bt.steps (B:Bt F G m f d t)(hc:c<3)(N:3<=q)(w:q<m+3):∃k,Sn t c (m+3) q k:=by
 obtain⟨s,Y,X,Q,D,P,U,J,M,nd,lt⟩:=B.ways N w;have h:∀l,(∀x∈l,x∈s++(Y++X))->∀x∈q::l,x<m+3:=λl R x e=>by
  rcases Aa1.mp e with rfl | z
  .exact w
  .exact lt x (R x z)
 rcases (show c=0\/c=1\/c=2 by lia) with rfl | rfl | rfl
 .exact Q.st (h s λx e=>by simp[e]) U
 .exact D.st (h Y λx e=>by simp[e]) J
 .exact P.st (h X λx e=>by simp[e]) M
end TT
namespace TT
structure Gd (m:Nat)(d t:List (List Nat)):Prop where
 dl:d.length=m+3
 tl:t.length=m
 t3:∀v,v<m->t[v]? = some [og t 0 (v+3),og t 1 (v+3),og t 2 (v+3)]
 ring:∀{p},3<=p->p<m+3->∃a b c,Rg d t (m+3) p a b c
 steps:∀{c q},c<3->3<=q->q<m+3->∃k,Sn t c (m+3) q k
 good:Good (m+3) (trn d)
section
variable {F G f:Nat->Nat}{m:Nat}{d t:List (List Nat)}
theorem Bt.gd (B:Bt F G m f d t):Gd m d t:=by
 refine⟨B.dl,B.tl,λv U=>?_,λw hp=>B.ring w hp,λs w Y=>B.steps s w Y,B.good⟩
 obtain⟨u,z,e⟩:=B.N.surj (v+3) (by lia)
 have X:3<=u:=by have:=B.N.lo (by lia) z;lia
 have h:=B.tr u X z
 rw[e,show v+3-3=v by lia]at h
 unfold TT.og;rw[show v+3-3=v by lia,h]
 rfl
end
end TT
namespace K34
open PySem L2 LV PyProof.Rows
theorem cV7:C1 ["drawing", "p", "q"] ["drawing", "p", "q"] (B2 bQ6):={}
theorem aU9 (l:List Nat):tN l=tI (l.map λ(x:Nat)=>(x:Int)):=by unfold tN tI nI;simp
structure Dw (m:Nat)(dr tr:List (List Nat)):Prop where
 m7:m<=7
 bt:∃F G f,TT.Bt F G m f dr tr
theorem Dw.len {m:Nat}{dr tr:List (List Nat)}(h:Dw m dr tr):dr.length=m+3:=by
 obtain⟨_,_,_,_,B⟩:=h;exact B.dl
theorem Dw.gd (h:Dw m dr tr):TT.Gd m dr tr:=by
 obtain⟨_,_,_,_,B⟩:=h;exact B.gd
theorem cU2 (h:p<dr.length):dr[p]? = some (TT.trn dr p):=by
 unfold TT.trn;rw[Aa2 h];rfl
def pD (x:Int×Int):PyData:=tI [x.1,x.2]
theorem dI0 (x y:Int×Int):PyData.eqv (pD x) (pD y)=decide (x=y):=by
 unfold pD;rw[Y8];refine Dk.mpr ?_;constructor
 .intro h;simp at h;exact Prod.ext h.1 h.2
 .rintro rfl;rfl
theorem dM9 (x:Int×Int):imm (pD x)=true:=l8 _
theorem aR2 (ps:List (Int×Int)):G5 (ps.map pD)=true:=e7 dM9 ps
theorem aR9 (x:Int×Int)(ps:List (Int×Int)):(ps.map pD).any (λz=>PyData.eqv z (pD x))=decide (x∈ps):=by
 induction ps with
 | nil=>rfl
 | cons y ps e=>
  rw[Ac7,List.any_cons,e,dI0];by_cases h:y=x
  .subst h;simp
  .have:¬x=y:=λz=>h z.symm
   simp[h,this]
theorem dG7 (q:Int)(l:List Nat):(nI l).any (λz=>PyData.eqv z (.int q))=decide (q∈l.map λ(x:Nat)=>(x:Int)):=by
 unfold nI;induction l with
 | nil=>rfl
 | cons y l e=>
  rw[Ac7,List.any_cons,e,bI6];by_cases h:(y:Int)=q
  .subst h;simp
  .have:¬q=(y:Int):=λz=>h z.symm
   simp[h,this]
theorem R5 (x:Int×Int):FitN 1 (pD x):=M8 _
theorem dL9 (ps:List (Int×Int)):Fit (.list (ps.map pD)):=(aL0 (n:=1) λd e=>by obtain⟨x,_,rfl⟩:=Aa8.mp e;exact R5 x).fit
def td (dr:List (List Nat))(p q:Int):Bool:=(decide (0<=p)&&decide (p<(dr.length:Int)))&&decide (q∈(TT.trn dr p.toNat).map λ(x:Nat)=>(x:Int))
def dB8 (ds:List PyData)(d:PyData):Prop:=∃(dr:List (List Nat)) (p q:Int),ds=[.tuple (dr.map tN),.int p,.int q]/\d=.bool (td dr p q)
def gp (ps:List (Int×Int))(k:Nat):Int×Int:=ps.getD k (0,0)
theorem bW6 (h:k<ps.length):ps[k]? = some (gp ps k):=by
 unfold gp;rw[Aa2 h,Ac0,Aa2 h];rfl
section
variable {P:Program}{w:World}{K:Frag}{mg:Str->Option Value}{base:Heap}{a:Ad}
theorem cZ2 (T:Tx K mg a):D2 P w K mg base CX0 1 a.cM5 a.cU7 ["drawing", "p", "q"] (spV K dB8):=by
 refine T.cU1.F.ok cV7 (X3 λds d ⟨_,_,_,e,_⟩=>by rw[e];rfl) (λJ A Y s H vs Q E hr h=>?_)
 obtain⟨ds,S,d,M,r,⟨z,p,q,rfl,rfl⟩,k⟩:=h;refine⟨_,(A8 (D0 (cN2 (cT0 dU8 bN0 A4 (pv 1) (C0 (aZ3 K) (by rfl) T.P9 Bm (A0 (pv 0) A2))) (cV1 (aB2 (aE5 K hr) (pv 2) (B1 (ixK K) (pv 0) (pv 1) (λ_ _=>rfl)) rfl))))),K8 M r ?_ k⟩
 refine L6 (d:=.bool (td z p q)) ?_ rfl;have U:(z.map tN).length=z.length:=Aa3 _;have h:=dE3 (K:=K) (m:=true) (ρ:=sl0 ["drawing", "p", "q"].length [.tuple (z.map tN),.int p,.int q]) (b:=decide (q∈(TT.trn z p.toNat).map λ(x:Nat)=>(x:Int))) (dC0 (r:=rI0 λi j=>.bl (decide (i<=j))) (r':=rI0 λi j=>.bl (decide (i<j))) (g:=λi j=>decide (i<=j)) (g':=λi j=>decide (i<j)) (A7 (i:=0)) v1 (S8 (ds:=z.map tN) (A1 v0 A5))) (λh=>by
  rw[U]at h;have X:=Ba _ _▸h;have h1:(0:Int)<=p:=Ax X.1;have N:p<(z.length:Int):=Ax X.2;have e:=aV3 (K:=K) (m:=false) (ρ:=sl0 ["drawing", "p", "q"].length [.tuple (z.map tN),.int p,.int q]) v2 (D9 (d':=tN (TT.trn z p.toNat)) (ds:=z.map tN) v0 v1 rfl (W2 p.toNat (by lia) (by rw[Aa9,cU2 (by lia)];rfl))) (ds:=nI (TT.trn z p.toNat)) rfl (cA8 _) (by rw[aU9];exact(M8 _).fit)
  rw[dG7]at e;exact e)
 rw[U]at h;exact h
end
def U0 (ts:List (List Int)):List (List Int):=ts.mergeSort λa b => !HT.X1 b a
theorem E1 (ts:List (List Int)):(U0 ts).Perm ts:=List.mergeSort_perm _ _
theorem S0 (ts:List (List Int)):(U0 ts).Pairwise E8:=by
 have:=List.pairwise_mergeSort (le:=λa b:List Int => !HT.X1 b a) (λa b d h1 e=>by
  have:=aA5 a b d (by unfold E8;simpa using h1) (by unfold E8;simpa using e)
  unfold E8 at this;simp[this]) (λa b=>by
  rcases bA7 a b with h | h <;> unfold E8 at h <;> simp[h]) ts
 refine this.imp λh=>?_
 unfold E8;simpa using h
def toL (x:Int×Int):List Int:=[x.1,x.2]
def ofL (l:List Int):Int×Int:=(l.getD 0 0,l.getD 1 0)
def sp (ps:List (Int×Int)):List (Int×Int):=(U0 (ps.map toL)).map ofL
theorem aQ5 (ps:List (Int×Int)):(sp ps).Perm ps:=by
 have h:=(E1 (ps.map toL)).map ofL
 rw[Ae2]at h;have e:ps.map (ofL ∘ toL)=ps:=(Az (g:=id) (λx _=>rfl)).trans (List.map_id _)
 rw[e]at h;exact h
theorem dH7 (ps:List (Int×Int)):(U0 (ps.map toL)).map tI=(sp ps).map pD:=by
 unfold sp;rw[Ae2];refine Az λl e=>?_
 obtain⟨x,_,rfl⟩:=Aa8.mp ((E1 _).mem_iff.mp e);rfl
theorem bK1 {K:Frag}{ρ:List Sl}{t:TA}{ps:List (Int×Int)}(z:LV.A K false t ρ [.list (ps.map pD)])(w:ps.length<64) :
  EF K (tCB (λxs H Q=>∃(p:Addr) (ys:List V) (ts:List (List Int)),xs=[.ref p]/\SqL K H p ys/\TupsV K H ys ts/\ys.length<64 /\
   ∀a (q:List Nat),H a=none->q.Perm (List.range ys.length)->(q.map λi=>ts.getD i []).Pairwise E8->Q (.ref a) (upd H a (.lst (q.map λi=>ys.getD i .non)))) t) ρ ((sp ps).map pD):=by
 have e:ps.map pD=(ps.map toL).map tI:=by rw[Ae2];rfl
 rw[e]at z;rw[<- dH7];exact aG7 z (λt s=>by obtain⟨x,_,rfl⟩:=Aa8.mp s;simp[toL]) (by rw[Aa3];exact w) (E1 _) (S0 _)
def ga {α:Type}(g:Nat->List α)(n:Nat):List α:=((List.range n).map g).flatten
theorem X5 (g:Nat->List α)(n:Nat):ga g (n+1)=ga g n++g n:=by
 unfold ga;rw[Cn,Ad2,List.flatten_append];simp
theorem ga_mem:x∈ga g n↔∃i,i<n/\x∈g i:=by
 unfold ga;rw[List.mem_flatten];constructor
 .rintro⟨l,w,e⟩;obtain⟨i,hi,rfl⟩:=Aa8.mp w;exact⟨i,Ab5.mp hi,e⟩
 .rintro⟨i,hi,e⟩;exact⟨g i,Aa8.mpr ⟨i,Ab5.mpr hi,rfl⟩,e⟩
def ga1 (tr:List (List Nat))(v:Nat):List (Int×Int):=(tr.getD v []).map λ(q:Nat)=>(3+(v:Int),(q:Int))
def arr (tr:List (List Nat)):List (Int×Int):=ga (ga1 tr) tr.length
theorem Dw.tl (h:Dw m dr tr):tr.length=m:=by
 obtain⟨_,_,_,_,B⟩:=h;exact B.tl
theorem Dw.t3 (h:Dw m dr tr)(s:v<m):∃r,tr[v]? = some r/\r.length=3:=by
 obtain⟨_,F,G,f,B⟩:=h;obtain⟨u,w,e⟩:=B.N.surj (v+3) (by lia)
 have z:3<=u:=by have:=B.N.lo (by lia) w;lia
 have:=B.tr u z w
 rw[e]at this;exact⟨_,this,rfl⟩
theorem bH5 (h:Dw m dr tr)(hi:i<=tr.length):(ga (ga1 tr) i).length<=3*i:=by
 induction i with
 | zero=>simp[ga]
 | succ i w=>
  rw[X5,Ab7]
  have:=w (by lia)
  have z:=h.tl
  obtain⟨r,h1,e⟩:=h.t3 (v:=i) (by lia)
  have:(ga1 tr i).length=3:=by unfold ga1;rw[Aa3,Ac0,h1];exact e
  lia
end K34
namespace L2
open PySem PySem.Spec PyProof.Rows
abbrev KvR:List (List Int×Addr×V)->List (List Int×Addr×Value)->Prop:=Paired (λp q=>p.1=q.1/\p.2.1=q.2.1/\RelV p.2.2 q.2.2)
def atK (kv:List (List Int×Addr×V))(k:List Int):Option V:=(kv.find? λx=>decide (x.1=k)).map (·.2.2)
def aT0 (kv:List (List Int×Addr×V))(k:List Int)(b:Addr)(v:V):List (List Int×Addr×V):=
 if(atK kv k).isSome then kv.map (λx=>if x.1=k then(x.1,x.2.1,v) else x) else kv++[(k,b,v)]
theorem bB0 (r:cE5 o u):o.isSome=u.isSome:=by
 cases o <;> cases u <;> first | rfl | exact r.elim
theorem KvR.at_ {kv:List (List Int×Addr×V)}{xs:List (List Int×Addr×Value)}(r:KvR kv xs)(k:List Int):cE5 (atK kv k) ((atKey xs k).map (·.2)):=by
 induction r with
 | nil=>exact True.intro
 | @cons p q ps qs h t ih=>
  by_cases e:p.1=k
  .have e':q.1=k:=h.1.symm.trans e
   simpa[atK,atKey,By,e,e',cE5]using h.2.2
  .have e':¬q.1=k:=λz=>e (h.1.trans z)
   simpa[atK,atKey,By,e,e',cE5]using ih
theorem KvR.repl (r:KvR kv xs)(k:List Int)(w:RelV y u):KvR (kv.map λx=>if x.1=k then(x.1,x.2.1,y) else x) (xs.map (putAt k u)):=by
 induction r with
 | nil=>exact .nil
 | @cons p q ps qs h t ih=>
  rw[Ac7,Ac7];refine .cons ?_ ih;by_cases e:p.1=k
  .have e':q.1=k:=h.1.symm.trans e
   rw[Ae e,putAt,Ae e'];exact⟨h.1.trans rfl |>.trans (by simp[e']),h.2.1,w⟩
  .have e':¬q.1=k:=λz=>e (h.1.trans z)
   rw[Ac e,putAt,Ac e'];exact h
theorem KvR.snoc (r:KvR kv xs)(h:p.1=q.1/\p.2.1=q.2.1/\RelV p.2.2 q.2.2):KvR (kv++[p]) (xs++[q]):=by
 induction r with
 | nil=>exact .cons h .nil
 | cons a _ e=>exact .cons a e
theorem KvR.put (r:KvR kv xs)(k:List Int)(b:Addr)(w:RelV y u):KvR (aT0 kv k b y) (storedH xs k b u):=by
 have e:=bB0 (KvR.at_ r k)
 rw[Option.isSome_map]at e;unfold aT0 storedH;rw[e];split
 .exact KvR.repl r k w
 .exact KvR.snoc r ⟨rfl,rfl,w⟩
theorem KvR.mem (r:KvR kv xs)(h:x∈xs):∃y∈kv,y.1=x.1/\y.2.1=x.2.1:=by
 induction r with
 | nil=>cases h
 | @cons p q ps qs a _ ih=>
  rcases Aa1.mp h with rfl | h
  .exact⟨p,by simp,a.1,a.2.1⟩
  .obtain⟨y,w,e⟩:=ih h;exact⟨y,by simp[w],e⟩
theorem cP5 (kv:List (List Int×Addr×V))(k:List Int)(b:Addr)(v:V):(aT0 kv k b v).length<=kv.length+1:=by
 unfold aT0;split <;> simp
theorem bD2:∀{ks:List Int} {us:List Value},Vals (ks.map V.int) us->ItemsAre (intKind P w) ks us
 | [],_,r=>by rw[Cs]at r;cases r;exact .nil
 | k::ks,_,r=>by
  rw[Ac7]at r;cases r with
  | cons h t=>
   obtain⟨t',rfl⟩:=h;exact .cons (by show Value.isInt k (Value.int k t')=true;simp[Value.isInt]) (bD2 t)
section
variable {X:Cx}{aA:Eg}{σ:St}{H:Hp}{s:Shared}{a b:Addr}{ks:List Int}{kv:List (List Int×Addr×V)}
theorem aB9 (I:Inv X aA σ H s)(h:SqT X.K H b (ks.map V.int)):(tupleKind (intKind X.prog X.w)).is s.heap ks b:=by
 obtain⟨its,r,⟨o,h1,e,⟨n,z⟩,_⟩,_⟩:=I.tuple0 h;exact⟨o,its.toArray,n,h1,e,z,by simpa using bD2 r⟩
def aZ1 (K:Frag)(H:Hp)(kv:List (List Int×Addr×V)):Prop:=∀z∈kv,SqT K H z.2.1 (z.1.map V.int)
theorem bU7 (I:Inv X aA σ H s)(e:Rd H a (dicO a kv)):ObjOk X.prog X.w H s.heap a (dicO a kv):=e.elim (λe=>I.hok a _ e) λ⟨_,e⟩=>(I.hok a _ e).2
theorem bF3 (I:Inv X aA σ H s)(e:Rd H a (dicO a kv))(F:aZ1 X.K H kv):∃xs,KvR kv xs/\kv.length<=sizeLine/\(a==sysModules)=false/\s.heap.DictOfH (tupleKind (intKind X.prog X.w)) a xs:=by
 obtain⟨⟨xs,r,z,D,o,J,U,h1,M,N,R,Q⟩,_⟩:=bU7 I e;refine⟨xs,r,z,D,o,J,U,h1,M,N,R,λx B=>?_,Q⟩
 obtain⟨y,P,m,Y⟩:=KvR.mem r B
 have:=aB9 I (F y P)
 rw[m,Y]at this;exact this
def cR4 (K:Frag)(neg:Bool):R2:=λx y H Q=>∃b a ks kv,x=.ref b/\SqT K H b (ks.map V.int)/\y=.ref a/\Rd H a (dicO a kv)/\aZ1 K H kv/\Q (.bl (xor neg (atK kv ks).isSome)) H
theorem aO1 (K:Frag)(hr:Room k X.A)(h:X.K=K:=by rfl):OpR X (compareOp .NotIn) (cR4 K true):=by
 subst h;intro aA s σ H x y v u Q I R D ⟨b,a,ks,kv,m,J,Y,U,N,q⟩;subst m Y;cases (show v=Value.ref b from R)
 cases (show u=Value.ref a from D)
 obtain⟨xs,r,z,M,w⟩:=bF3 I U N;refine wpAny_notIn_heap (tupleKind_room_in1 (by have:=hr.un;lia)) (aB9 I J) M w ?_
 have e:=bB0 (KvR.at_ r ks)
 rw[Option.isSome_map]at e;rw[<- e];exact⟨.bl _,H,I.tok _,rfl,by simpa using q⟩
end
theorem aQ0 (r:KvR kv xs)(z:kv.length<=sizeLine)(X:(a==sysModules)=false)(h1:h'.get? a=some o)(e:o.ExactDict)(s:o.data=.dict es ep)
  (m:es.toList=xs.map dEnt) (Y:(xs.map (·.1)).Nodup):ObjOk P w H' h' a (dicO a kv):=
 ⟨⟨xs,r,z,X,o,es,ep,h1,e,s,m,Y⟩,⟨o,h1⟩,λU J ⟨xs,r,z,X,o,es,ep,h1,e,s,m,Y⟩ k=>⟨xs,r,z,X,o,es,ep,k _ h1,e,s,m,Y⟩⟩
def cB2:TE:=λ_ H Q=>∀p,H p=none->Q (.ref p) (upd H p (dicO p []))
theorem _root_.L2.Inv.big' (I:Inv X aA σ H s):sysModules<s.heap.objs.size:=by
 have h:mainGlobals<s.heap.objs.size:=(I.mod.glob.keeps I.bk).lt
 exact Nat.lt_trans (by decide) h
theorem bD4:PE X (.Dict [] [] pos) cB2:=⟨λe s σ H Q I h=>
 wpAny_Dict_empty ⟨.ref s.heap.objs.size,_,I.laid (a:=s.heap.objs.size) (o:=dicO s.heap.objs.size []) (t':=s.toks) (λ_ _ q=>Aa6 _ q) (Aa7 _)
  (aQ0 .nil (Ci _) (beq_eq_false_iff_ne.mpr (Ne.symm (Ab9 I.big'))) (Ac3 _ rfl) ⟨rfl,rfl,rfl⟩ rfl rfl List.nodup_nil),rfl,h _ (I.hok.fresh (Aa7 _))⟩⟩
def bY6 (K:Frag)(td ty tv:TE):TS:=λD σ H=>tv σ H λv H1=>td σ H1 λx H2=>ty σ H2 λy H3=>∃a b ks kv,x=.ref a/\y=.ref b/\SqT K H3 b (ks.map V.int)/\H3 a=some (dicO a kv)/\aZ1 K H3 kv/\kv.length<sizeLine/\D.nx σ (upd H3 a (dicO a (aT0 kv ks b v)))
theorem Z7 (K:Frag)(hr:Room k X.A)(ho:PE X o td)(hi:PE X i ty)(hv:PE X value tv)(hs:swapsWith value (some (.Subscript o i pos')) pos.line X.env=pure false:=by rfl)(h:X.K=K:=by rfl) :
  PS X (.Assign [.Subscript o i pos'] value pos) (bY6 K td ty tv):=by
 subst h;refine⟨?_⟩;intro Y s σ H D I h;refine wpAny_Assign_Subscript (thn (hv Y s σ H _ I h) λr s1 ⟨v,H1,B,rv,q1⟩=>thn (ho Y s1 σ H1 _ B q1) λu s2 ⟨x,F,P,rx,q2⟩=>thn (hi Y s2 σ F _ P q2) λiv s3 ⟨y,H3,m,ry,a,b,Q,kv,ex,ey,J,N,hk,hl,q3⟩=>?_) hs
 subst ex ey;obtain rfl:u=Value.ref a:=rx;obtain rfl:iv=Value.ref b:=ry;obtain⟨xs,w,z,hd,dd⟩:=bF3 m (.inl N) hk;have hz:xs.length<=sizeLine:=by rw[<- Paired.length w];exact z
 refine wpAny_setItem_heap (hsz:=hz) (tupleKind_room_in1 (by have:=hr.un;lia)) (aB9 m J) dd λh' U M=>⟨σ,_,?_,q3⟩
 obtain⟨q,es,ep,R,h2,h3,h4,_,h5⟩:=U;have hp:=cP5 kv Q b v;exact m.write (x:=a) (e:=a) (by rw[N];exact True.intro) (.inl rfl) (λc q J z=>(M.2 c J).trans z) ⟨q,R⟩ (aQ0 (KvR.put w Q b rv) (by lia) hd R h2 h3 h4 h5)
end L2
namespace LV
open PySem L2
section
variable {K:Frag}{ρ:List Sl}{m:Bool}{ta tb tv:TE}{d:PyData}{ks:List Int}{kvs:List (List Int×PyData)}
def T0 (kvs:List (List Int×PyData))(k:List Int)(d:PyData):List (List Int×PyData):=
 if kvs.any (λx=>decide (x.1=k)) then kvs.map (λx=>if x.1=k then(x.1,d) else x) else kvs++[(k,d)]
theorem aM3:∀{kv:List (List Int×Addr×V)} {kvs:List (List Int×PyData)},kv.map (·.1)=kvs.map (·.1)->Reps K Z (kv.map λx=>V.ref x.2.1) (kvs.map λx=>PyData.tuple (x.1.map PyData.int))->aZ1 K Z kv
 | [],_,_,_=>λz hz=>by cases hz
 | x::kv,[],e,_=>by simp at e
 | x::kv,y::kvs,e,r=>by
  simp only[Ac7,Bd]at e r;cases r with
  | cons a b=>
   intro z hz;rcases Aa1.mp hz with rfl | hz
   .cases a with
    | tup s q=>rw[e.1,<- Reps.ints q];exact s
   .exact aM3 e.2 b z hz
theorem bC3 (h:aZ1 K H kv)(s:Same H H'):aZ1 K H' kv:=λz e=>D3 s (h z e)
theorem bF8:∀{kv:List (List Int×Addr×V)} {kvs:List (List Int×PyData)},kv.map (·.1)=kvs.map (·.1)->(atK kv ks).isSome=kvs.any λx=>decide (x.1=ks)
 | [],[],_=>rfl
 | [],_::_,e=>by simp at e
 | _::_,[],e=>by simp at e
 | x::kv,y::kvs,e=>by
  simp only[Ac7,Bd]at e;have ih:=bF8 e.2;unfold atK at ih ⊢;rw[By,List.any_cons,e.1];by_cases h:y.1=ks
  .simp[h]
  .simp[h];simpa using ih
theorem aX1:EFT K cB2 ρ (.dic []):=λS B σ H o I Q q p hp=>
 q (.ref p) [p] _ (D1 hp) (λb e=>by rw[Ad8.mp e];exact hp) (by simp) (.dic B3 rfl .nil .nil)
theorem cC0 (he:E K false ta ρ (.tuple (ks.map PyData.int)))(h:ρ[i]? = some (.tr (.dic kvs))):E K m (tOp (cR4 K neg) ta (D7 i)) ρ (.bool (xor neg (kvs.any λx=>decide (x.1=ks)))):=E.bor (E.imm (m:=false) λS B σ H o I Q q=>he S B σ H o I _ λv H1 w z=>by
 obtain⟨_,u,a,b⟩:=(I.grow w).tr i _ h;refine⟨u,a,?_⟩;generalize o i=L at b;cases b with
 | @dic p kv _ e k r2 r3=>
  cases z with
  | @tup b xs _ s r=>
   rw[Reps.ints r]at s;refine⟨b,p,ks,kv,rfl,s,rfl,.inl e,bC3 (aM3 k r2) H9,?_⟩;rw[bF8 k];exact q _ H1 w (.bl _))
theorem aZ6 (U:Rep K Z v d):∀{kv:List (List Int×Addr×V)} {kvs:List (List Int×PyData)},kv.map (·.1)=kvs.map (·.1)->Reps K Z (kv.map λx=>V.ref x.2.1) (kvs.map λx=>PyData.tuple (x.1.map PyData.int))->Reps K Z (kv.map (·.2.2)) (kvs.map (·.2)) ->
  (kv.map λx=>if x.1=ks then(x.1,x.2.1,v) else x).map (·.1)=(kvs.map λx=>if x.1=ks then(x.1,d) else x).map (·.1) /\
  Reps K Z ((kv.map λx=>if x.1=ks then(x.1,x.2.1,v) else x).map λx=>V.ref x.2.1) ((kvs.map λx=>if x.1=ks then(x.1,d) else x).map λx=>PyData.tuple (x.1.map PyData.int)) /\
  Reps K Z ((kv.map λx=>if x.1=ks then(x.1,x.2.1,v) else x).map (·.2.2)) ((kvs.map λx=>if x.1=ks then(x.1,d) else x).map (·.2))
 | [],[],_,_,_=>⟨rfl,.nil,.nil⟩
 | [],_::_,e,_,_=>by simp at e
 | _::_,[],e,_,_=>by simp at e
 | x::kv,y::kvs,e,r1,r2=>by
  simp only[Ac7,Bd]at e r1 r2;cases r1 with
  | cons s M=>
   cases r2 with
   | cons J N=>
    obtain⟨h1,Y,X⟩:=aZ6 U e.2 M N;simp only[Ac7];by_cases h:y.1=ks
    .have w:x.1=ks:=e.1.trans h
     rw[Ae h,Ae w];exact⟨by rw[h1];simp[h,w],.cons s Y,.cons U X⟩
    .have w:¬x.1=ks:=λz=>h (e.1.symm.trans z)
     rw[Ac h,Ac w];exact⟨by rw[h1,e.1],.cons s Y,.cons J X⟩
theorem cS7 (s:Rep K Z v d)(rb:Rep K Z (.ref b) (.tuple (ks.map PyData.int)))(e:kv.map (·.1)=kvs.map (·.1))(w:Reps K Z (kv.map λx=>V.ref x.2.1) (kvs.map λx=>PyData.tuple (x.1.map PyData.int)))(z:Reps K Z (kv.map (·.2.2)) (kvs.map (·.2))) :
  (aT0 kv ks b v).map (·.1)=(T0 kvs ks d).map (·.1)/\Reps K Z ((aT0 kv ks b v).map λx=>V.ref x.2.1) ((T0 kvs ks d).map λx=>PyData.tuple (x.1.map PyData.int))/\Reps K Z ((aT0 kv ks b v).map (·.2.2)) ((T0 kvs ks d).map (·.2)):=by
 unfold aT0 T0;rw[bF8 e];split
 .exact aZ6 s e w z
 .simp only[Ad2,Ac7,Cs];exact⟨by rw[e],w.append (.cons rb .nil),z.append (.cons s .nil)⟩
theorem aA1 (hv:E K true tv ρ d)(hi:ρ[i]? = some (.tr (.dic kvs)))(hk:E K true tb ρ (.tuple (ks.map PyData.int)))(hl:kvs.length<sizeLine)(hn:R.nx (ρ.set i (.tr (.dic (T0 kvs ks d)))))(nb:M9 ρ=true:=by rfl) :
  W K (bY6 K (D7 i) tb tv) ρ R:=λS B D σ H o I s=>hv S B σ H o I _ λv H1 N rv=>by
 obtain⟨X,u,a,b⟩:=(I.grow N).tr i _ hi;refine⟨u,a,hk S B σ H1 o (I.grow N) _ λy w s2 ry=>?_⟩
 have F:=(I.grow N).grow s2
 obtain⟨X,u2,a2,b2⟩:=F.tr i _ hi;rw[a]at a2;cases a2;have Y:i<ρ.length:=(Ab0.mp hi).1;generalize ho:o i=L at b2;cases b2 with
 | @dic p kv _ e k r2 r3=>
  cases ry with
  | @tup q xs _ sq r=>
   have hq:=Reps.ints r
   have Q:SqT K w q (ks.map V.int):=by rw[<- hq];exact D3 H9 sq
   have len:kv.length=kvs.length:=by have:=congrArg List.length k;simpa using this
   refine⟨p,q,ks,kv,rfl,rfl,Q,e,bC3 (aM3 k r2) H9,by lia,?_⟩
   have M:Rep K (hid (C9 ρ o S) w) v d:=rv.mono (aQ2 (m:=true) s2)
   obtain⟨k',U,J⟩:=cS7 M (b:=q) (.tup (by rw[<- hq];exact sq) (M0 ks)) k r2 r3
   have oi:cG8 ρ o i p:=⟨_,hi,rfl,by rw[ho];simp⟩
   have os:C9 ρ o S p:=.inr ⟨i,_,hi,rfl,by rw[ho];simp⟩
   have g:Same (hid (C9 ρ o S) w) (hid (λb=>C9 ρ o S b\/b∈[p]) (upd w p (dicO p (aT0 kv ks q v)))):=λc y z=>by
    obtain⟨q1,q2⟩:=hid_some.mp z;refine hid_some.mpr ⟨λz=>q1 (z.elim id λz=>by rw[Ad8.mp z];exact os),?_⟩
    rw[B0 (λz=>q1 (by rw[z];exact os))];exact q2
   have P:=F.put (H':=upd w p (dicO p (aT0 kv ks q v))) (v:=.ref p) (x:=.tr (.dic (T0 kvs ks d))) (L:=[p]) i Y (λb=>b=p) (λb z=>by rw[z];exact oi) (λb y q z=>by rw[B0 z];exact q) (λb z=>.inl (by rw[Ad8.mp z];exact oi))
    (.inr ⟨_,rfl,by simp,.dic B3 k' (U.mono g) (J.mono g)⟩) (.inr (J0 nb))
   rw[aV4 a]at P;exact s.nx _ _ _ _ P hn
end
section
variable {K:Frag}{ρ:List Sl}{t:TE}
theorem dM0 (hi:ρ[i]? = some (.val (.int x)))(h:E K true t ρ (.int y))(Y:R.nx (ρ.set i (.val (.int (x+y))))):W K (dT2 i t (ipI λi j=>i+j)) ρ R:=λS B D σ H o I s=>by
 obtain⟨v,w,z⟩:=I.val i _ hi;cases z;refine⟨_,w,h S B σ H o I _ λv e X r=>?_⟩
 cases r
 exact⟨_,_,rfl,rfl,s.nx _ _ e o ((I.grow X).set (m:=true) i (d:=.int (x+y)) (.int _)) Y⟩
end
theorem cL2 (kvs:List (List Int×PyData))(k w:List Int)(d:PyData):(T0 kvs k d).any (λx=>decide (x.1=w))=(kvs.any (λx=>decide (x.1=w))||decide (k=w)):=by
 unfold T0;split
 .rename_i h;have e:(kvs.map λx=>if x.1=k then(x.1,d) else x).any (λx=>decide (x.1=w))=kvs.any (λx=>decide (x.1=w)):=by
   rw[List.any_map]
   congr 1
   funext x
   simp only[Function.comp];split <;> rfl
  rw[e];by_cases z:k=w
  .subst z;rw[h];rfl
  .simp[z]
 .simp
theorem bN4 (kvs:List (List Int×PyData))(k:List Int)(d:PyData):(T0 kvs k d).length<=kvs.length+1:=by
 unfold T0;split <;> simp
end LV
namespace TT
open Classical
def par (w:Nat->Bool):List Nat->Bool
 | []=>false
 | a::l=>xor (w a) (par w l)
theorem X8 (w:Nat->Bool):∀l m:List Nat,par w (l++m)=xor (par w l) (par w m)
 | [],m=>by simp[par]
 | a::l,m=>by simp[par,X8 w l m]
theorem aA2:∀{l:List Nat},(∀a∈l,w a=false)->par w l=false
 | [],_=>rfl
 | a::l,h=>by simp[par,h a (by simp),aA2 (l:=l) λb hb=>h b (by simp[hb])]
theorem bJ0 (w u:Nat->Bool):∀l:List Nat,par (λa=>xor (w a) (u a)) l=xor (par w l) (par u l)
 | []=>rfl
 | a::l=>by
  simp only[par,bJ0 w u l];cases w a <;> cases u a <;> cases par w l <;> cases par u l <;> rfl
theorem aA6:∀{l:List Nat},(∀a∈l,w a=u a)->par w l=par u l
 | [],_=>rfl
 | a::l,h=>by simp[par,h a (by simp),aA6 (l:=l) λb hb=>h b (by simp[hb])]
theorem bD6:∀{l:List Nat},l.Nodup->s∈l->(∀a∈l,a≠s->w a=false)->par w l=w s
 | [],_,h,_=>by cases h
 | a::l,nd,h,hz=>by
  rw[Aa5]at nd;by_cases e:a=s
  .subst e
   simp[par,aA2 (l:=l) λb hb=>hz b (by simp[hb]) λe=>nd.1 (e▸hb)]
  .have hs:s∈l:=by rcases Aa1.mp h with h | h;exact absurd h.symm e;exact h
   simp[par,hz a (by simp) e,bD6 nd.2 hs λb hb=>hz b (by simp[hb])]
theorem cB1 (m:s≠t)(Y:l.Nodup)(U:s∈l)(J:t∈l)(M:∀a∈l,a≠s->a≠t->w a=false):par w l=xor (w s) (w t):=by
 have e:par w l=par (λa=>xor (if a=s then w s else false) (if a=t then w t else false)) l:=aA6 λa X=>by
  by_cases h1:a=s
  .subst h1;simp[m]
  .by_cases z:a=t
   .subst z;simp[h1]
   .simp[h1,z,M a X h1 z]
 rw[e,bJ0,bD6 Y U λa _ h=>by simp[h],bD6 Y J λa _ h=>by simp[h]]
 simp
theorem lin_iff:∀{l:List Nat} {a b:Nat},lin l a b↔∃p s,l=p++a::b::s
 | [],a,b=>by simp[lin]
 | [c],a,b=>by
  simp only[lin,false_iff];rintro⟨p,s,e⟩
  have:=congrArg List.length e
  simp at this
  lia
 | c::d::l,a,b=>by
  rw[B9,lin_iff (l:=d::l)];constructor
  .rintro (⟨rfl,rfl⟩ | ⟨p,s,e⟩)
   .exact⟨[],l,rfl⟩
   .exact⟨c::p,s,by rw[e];rfl⟩
  .rintro⟨p,s,e⟩;cases p with
   | nil=>simp at e;exact .inl ⟨e.1.symm,e.2.1.symm⟩
   | cons c' p=>simp at e;exact .inr ⟨p,s,e.2⟩
theorem adj_iff:adj l a b↔(∃p s,l=p++a::b::s)\/∃p,l=p++[a]/\l.head? = some b:=by
 unfold adj;rw[lin_iff];cases l with
 | nil=>simp
 | cons c l=>
  simp only[List.take_succ_cons,List.take_zero,List.head?_cons,Option.some.injEq];constructor
  .rintro⟨p,s,e⟩;rcases Ac5 s with w | ⟨z,d,w⟩
   .subst w;have e':(c::l)++[c]=(p++[a])++[b]:=by rw[e];simp
    have:=List.append_inj' e' rfl
    exact .inr ⟨p,this.1,by simpa using this.2⟩
   .subst w;have e':(c::l)++[c]=(p++a::b::z)++[d]:=by rw[e];simp
    exact .inl ⟨p,z,(List.append_inj' e' rfl).1⟩
  .rintro (⟨p,s,e⟩ | ⟨p,e,rfl⟩)
   .exact⟨p,s++[c],by rw[e];simp⟩
   .exact⟨p,[],by rw[e];simp⟩
theorem K6 {l p s:List Nat}{u:Nat}(w:l.Nodup)(e:l=p++u::s):l.idxOf u=p.length:=by
 have hp:u∉p:=λz=>by rw[e]at w;exact(Aa4.mp w).2.2 u z u (by simp) rfl
 rw[e,List.idxOf_append,Ac hp];simp
theorem pot (Y:l.Nodup)(h:par w l=false):∃G:Nat->Bool,∀a b,adj l a b->xor (G a) (G b)=w b:=by
 refine⟨λu=>par w (l.take (l.idxOf u+1)),λa b z=>?_⟩
 have at_:∀(p s:List Nat) (u:Nat),l=p++u::s->l.take (l.idxOf u+1)=p++[u]:=λp s u e=>by
  rw[K6 Y e,e,show p++u::s=(p++[u])++s by simp]
  exact List.take_left' (by simp)
 rcases adj_iff.mp z with⟨p,s,e⟩ | ⟨p,e,m⟩
 .dsimp only
  rw[at_ p (b::s) a e,at_ (p++[a]) s b (by rw[e];simp),X8,X8,X8]
  simp only[par];cases par w p <;> cases w a <;> cases w b <;> rfl
 .dsimp only
  rw[at_ p [] a e];cases l with
  | nil=>simp at m
  | cons c r=>
   simp at m;subst m
   rw[<- e,h,at_ [] r c rfl]
   simp[par]
structure Cyc (r:Nat->List Nat)(z:Nat->Nat->Bool):Prop where
 sym:∀p q,z p q=z q p
 sup:∀p q,z p q=true->q∈r p
 ev:∀p,par (z p) (r p)=false
def H1 (r:Nat->List Nat):Prop:=∀z,Cyc r z->∃f:Nat->Nat->Bool,(∀q a b,adj (r q) a b->f q a=f a b)/\∀p s q,adj (r p) s q->xor (f p s) (f p q)=z p q
theorem bF5 (w:l.Nodup)(X:3<=l.length)(h1:adj l a b)(R:adj l b a):False:=by
 have M:a≠b:=λe=>by
  subst e;rcases adj_iff.mp h1 with⟨p,s,e⟩ | ⟨p,e,Y⟩
  .rw[e]at w
   have:=(Aa4.mp w).2.1
   simp at this
  .cases p with
   | nil=>rw[e]at X;simp at X
   | cons c p=>rw[e]at Y w;simp at Y;subst Y;simp at w
 rcases adj_iff.mp h1 with⟨p,s,e⟩ | ⟨p,e,Y⟩
 .rcases adj_iff.mp R with⟨U,N,e'⟩ | ⟨U,e',m⟩
  .have F:=K6 w e
   have B:=K6 w e'
   have Q:=K6 (p:=p++[a]) (u:=b) (s:=s) w (by rw[e];simp)
   have D:=K6 (p:=U++[b]) (u:=a) (s:=N) w (by rw[e'];simp)
   simp at Q D
   lia
  .
   cases p with
   | cons c p=>rw[e]at m w;simp at m;subst m;simp at w
   | nil=>
    cases s with
    | nil=>rw[e]at X;simp at X
    | cons d s=>
     rw[e]at e' w;rcases Ac5 (d::s) with h | ⟨z,g,h⟩
     .cases h
     .rw[h]at e' w;have J:([]++a::b::z.concat g)=(a::b::z)++[g]:=by simp
      rw[J]at e' w
      have:=(List.append_inj' e' rfl).2
      simp at this
      subst this;simp at w
 .rcases adj_iff.mp R with⟨U,N,e'⟩ | ⟨U,e',m⟩
  .cases U with
   | cons c U=>rw[e']at Y w;simp at Y;subst Y;simp at w
   | nil=>
    cases N with
    | nil=>rw[e']at X;simp at X
    | cons d s=>
     rw[e']at e w;rcases Ac5 (d::s) with h | ⟨z,g,h⟩
     .cases h
     .rw[h]at e w;have J:([]++b::a::z.concat g)=(b::a::z)++[g]:=by simp
      rw[J]at e w
      have:=(List.append_inj' e rfl).2
      simp at this
      subst this;simp at w
  .have:=List.append_inj' (e.symm.trans e') rfl
   exact M (by simpa using this.2)
theorem dD0 {g:Nat->Bool}:∀(a:Nat) (l:List Nat),(∀s q,lin (a::l) s q->g s=g q)->∀c∈l,g c=g a
 | a,[],_,c,hc=>by cases hc
 | a,b::l,h,c,hc=>by
  have e:g a=g b:=h a b (by rw[B9];exact .inl ⟨rfl,rfl⟩)
  rcases Aa1.mp hc with rfl | hc
  .exact e.symm
  .rw[e];exact dD0 b l (λs q w=>h s q (by rw[B9];exact .inr w)) c hc
theorem cQ8:H1 S.first.row:=by
 intro z Z;have w:S.first.row 0=[1,2]:=rfl;have m:S.first.row 1=[2,0]:=rfl;have Y:S.first.row 2=[0,1]:=rfl;have rh:∀q,3<=q->S.first.row q=[]:=λq e=>aV0 (s:=S.first) e
 have X:=Z.ev 0
 have U:=Z.ev 1
 have J:=Z.ev 2
 rw[w]at X;rw[m]at U;rw[Y]at J;simp only[par,Bool.xor_false]at X U J;have M:=Z.sym 0 1;have N:=Z.sym 0 2;have R:=Z.sym 1 2;refine⟨λp q=>if(p=0/\q=1)\/(p=1/\q=2)\/(p=2/\q=0) then z 0 1 else false,λq a b h=>?_,λp s q h=>?_⟩
 .have e:q<3:=by
   by_cases e:q<3
   .exact e
   .rw[rh q (by lia)]at h;exact absurd (C7 h).1 (by simp)
  rcases (show q=0\/q=1\/q=2 by lia) with rfl | rfl | rfl
  .rw[w]at h;simp[adj,lin]at h;rcases h with⟨rfl,rfl⟩ | ⟨rfl,rfl⟩ <;> simp
  .rw[m]at h;simp[adj,lin]at h;rcases h with⟨rfl,rfl⟩ | ⟨rfl,rfl⟩ <;> simp
  .rw[Y]at h;simp[adj,lin]at h;rcases h with⟨rfl,rfl⟩ | ⟨rfl,rfl⟩ <;> simp
 .have e:p<3:=by
   by_cases e:p<3
   .exact e
   .rw[rh p (by lia)]at h;exact absurd (C7 h).1 (by simp)
  rcases (show p=0\/p=1\/p=2 by lia) with rfl | rfl | rfl
  .rw[w]at h;simp[adj,lin]at h;rcases h with⟨rfl,rfl⟩ | ⟨rfl,rfl⟩ <;> simp <;> grind
  .rw[m]at h;simp[adj,lin]at h;rcases h with⟨rfl,rfl⟩ | ⟨rfl,rfl⟩ <;> simp <;> grind
  .rw[Y]at h;simp[adj,lin]at h;rcases h with⟨rfl,rfl⟩ | ⟨rfl,rfl⟩ <;> simp <;> grind
theorem bx1:∀A X V Y B:Bool,xor A (xor X (xor V (xor Y B)))=false->xor A (xor X (xor false (xor Y B)))=V:=by decide
theorem bx2:∀A X V Y B:Bool,xor A (xor X (xor V (xor Y B)))=false->xor A (xor X (xor Y B))=V:=by decide
theorem bx3:∀A T V B:Bool,xor A (xor T (xor V B))=false->xor A (xor T B)=V:=by decide
theorem bx4:∀A Z V B:Bool,xor A (xor Z (xor V B))=false->xor A (xor Z (xor false B))=V:=by decide
section
variable {row row':Nat->List Nat}{v x y:Nat}{L C R:List Nat}
theorem Edit.sym' (E:Edit row row' v x y L C R)(h:q∈row' p):p∈row' q:=by
 obtain⟨b,e⟩:=aG9 h;exact(C7 (E.tri' _ _ _ e)).2
theorem Edit.mem_old (E:Edit row row' v x y L C R)(hp:p≠v)(J:q≠v)(h:q∈row' p):q∈row p:=by
 by_cases m:p=2
 .subst m;rw[E.new2]at h;rw[E.two];simp only[Aa0,Aa1]at h ⊢;grind
 by_cases X:p=x
 .subst X;obtain⟨u,z,w,e,s⟩:=E.rx;rw[s]at h;rw[e];simp only[Aa0,Aa1]at h ⊢;grind
 by_cases U:p=y
 .subst U;obtain⟨u,w,e,s⟩:=E.ry;rw[s]at h;rw[e];simp only[Aa0,Aa1]at h ⊢;grind
 by_cases Y:p∈C
 .obtain⟨u,z,w,e,s⟩:=E.rc p Y;rw[s]at h;rw[e];simp only[Aa0,Aa1]at h ⊢;grind
 .rw[E.rest p m hp X U Y]at h;exact h
theorem Edit.par_old (E:Edit row row' v x y L C R)(Z:Cyc row' w)(hp:p≠v):par (w p) (row p)=w p v:=by
 obtain⟨⟨f1,f2,f3,F,B⟩,N,nd2⟩:=E.facts;have ev:=Z.ev p;have no:∀q,q∉row' p->w p q=false:=λq Q=>by
  cases h:w p q with
  | false=>rfl
  | true=>exact absurd (Z.sup p q h) Q
 have nd':=E.nd' p
 by_cases X:p=2
 .subst X;rw[E.new2]at ev;rw[E.two];have Y:par (w 2) C=false:=aA2 λc Y=>no c (by
   rw[E.new2]
   have:=N c Y
   simp only[Aa4,Aa5,Aa0,Aa1,not_or]at nd2;simp only[Aa0,Aa1,not_or];grind)
  simp only[X8,par,Y]at ev ⊢;exact bx1 _ _ _ _ _ ev
 by_cases U:p=x
 .subst U;obtain⟨u,z,M,s,m⟩:=E.rx;rw[m]at ev;rw[s];simp only[X8,par]at ev ⊢;exact bx2 _ _ _ _ _ ev
 by_cases J:p=y
 .subst J;obtain⟨u,M,s,m⟩:=E.ry;rw[m]at ev;rw[s];simp only[X8,par]at ev ⊢;exact bx3 _ _ _ _ ev
 by_cases Y:p∈C
 .obtain⟨u,z,M,s,m⟩:=E.rc p Y;have D:w p 2=false:=no 2 (by
   have:=E.nd p
   rw[s]at this;have v2:=E.v2;rw[m];simp only[Aa4,Aa5,Aa0,Aa1,not_or]at this ⊢;grind)
  rw[m]at ev;rw[s];simp only[X8,par,D]at ev ⊢;exact bx4 _ _ _ _ ev
 .have e:=E.rest p X hp U J Y
  rw[e]at ev;rw[ev,no v (by rw[e];exact E.fresh p)]
theorem cX6 (E:Edit row row' v x y L C R)(h:H1 row):H1 row':=by
 intro B Z;obtain⟨⟨f1,f2,f3,f4,f5⟩,fC,nd2⟩:=E.facts;have v2:=E.v2;have D:=E.nd' v;have hD3:3<=(row' v).length:=by rw[E.newv];simp
 obtain⟨G,hG⟩:=pot D (Z.ev v);have nv:∀{q},q∈row' v->q≠v:=λ{q} J e=>E.self' v (e▸J)
 have X:∀{a b},adj (row' v) a b->a∈row' b/\b∈row' a/\a≠v/\b≠v:=λ{a b} U=>by
  have N:=E.tri' _ _ _ U
  have t2:=E.tri' _ _ _ N
  exact⟨(C7 t2).2,(C7 N).1,nv (C7 U).1,nv (C7 U).2⟩
 let m:Nat->Nat->Bool:=λp q=>if adj (row' v) p q then G p else if adj (row' v) q p then G q else false
 have lksym:∀p q,m p q=m q p:=λp q=>by
  simp only[m];by_cases h1:adj (row' v) p q <;> by_cases Q:adj (row' v) q p
  .exact(bF5 D hD3 h1 Q).elim
  .simp[h1,Q]
  .simp[h1,Q]
  .simp[h1,Q]
 let z:Nat->Nat->Bool:=λp q=>if p=v\/q=v then false else xor (B p q) (m p q)
 have zz:∀p q,p≠v->q≠v->z p q=xor (B p q) (m p q):=λp q h1 Q=>by simp[z,h1,Q]
 have Z0:Cyc row z:=by
  refine⟨λp q=>?_,λp q hz=>?_,λp=>?_⟩
  .simp only[z];rw[Z.sym p q,lksym p q];by_cases h1:p=v <;> by_cases Q:q=v <;> simp[h1,Q]
  .by_cases h1:p=v\/q=v
   .simp only[z]at hz;rw[Ae h1]at hz;cases hz
   .have h1':p≠v/\q≠v:=by simpa using h1
    rw[zz p q h1'.1 h1'.2]at hz;refine E.mem_old h1'.1 h1'.2 ?_;cases hz':B p q with
    | true=>exact Z.sup p q hz'
    | false=>
     rw[hz']at hz;by_cases a1:adj (row' v) p q
     .exact(X a1).2.1
     .by_cases a2:adj (row' v) q p
      .exact(X a2).1
      .simp[m,a1,a2]at hz
  .by_cases hp:p=v
   .subst hp;rw[E.oldv];rfl
   .have P:par (z p) (row p)=par (λq=>xor (B p q) (m p q)) (row p):=aA6 λq J=>zz p q hp λe=>E.fresh p (e▸J)
    rw[P,bJ0,E.par_old Z hp];by_cases hm:p∈row' v
    .obtain⟨s,M⟩:=aG9 hm;obtain⟨t,ht⟩:=bL1 hm;have hst:s≠t:=λe=>bF5 D hD3 M (e▸ht)
     have e2:=cB1 (w:=m p) hst (E.nd p) (E.mem_old hp (X M).2.2.2 (X M).2.1) (E.mem_old hp (X ht).2.2.1 (X ht).1) (λq _ h1 Q=>by
      simp only[m];rw[Ac λY=>h1 (aJ1 D Y M),Ac λY=>Q (bL7 D Y ht)])
     have l1:m p s=G p:=by simp[m,M]
     have l2:m p t=G t:=by
      simp only[m];rw[Ac λY=>hst (aJ1 D M Y),Ae ht]
     rw[e2,l1,l2,Z.sym p v,<- hG t p ht];cases G t <;> cases G p <;> rfl
    .rw[aA2 λq _=>by simp only[m];rw[Ac λY=>hm (C7 Y).1,Ac λY=>hm (C7 Y).2]]
     cases hz:B p v with
     | false=>rfl
     | true=>exact absurd (E.sym' (Z.sup p v hz)) hm
 obtain⟨f,fr,fb⟩:=h z Z0;have fb':∀p q,q∈row p->xor (f p q) (f q p)=z p q:=λp q J=>by
  obtain⟨s,M⟩:=bL1 J
  have:=fb p s q M
  have N:=E.tri _ _ _ M
  rw[<- this,fr _ _ _ M,fr _ _ _ N];cases f q p <;> cases f p q <;> rfl
 have lkC:∀c∈C,m 2 c=false:=λc hc=>by
  have fc:=fC c hc
  have aD:∀a b,adj (row' v) a b↔EE x y C a b\/(a=y/\b=2)\/(a=2/\b=x):=λa b=>by
   rw[E.newv];unfold adj EE
   have:x::(C++[y,2])++List.take 1 (x::(C++[y,2]))=(x::C)++y::[2,x]:=by simp
   rw[this,D4];simp only[B9,aA8,or_false]
   simp
  simp only[m];have m1:¬adj (row' v) 2 c:=λY=>by
   rcases (aD _ _).mp Y with h | h | h
   .have:=y9 h;grind
   .exact absurd h.1.symm f3
   .exact fc.1 h.2
  have m2:¬adj (row' v) c 2:=λY=>by
   rcases (aD _ _).mp Y with h | h | h
   .have:=y9 h;grind
   .exact fc.2.1 h.1
   .exact fc.2.2.1 h.1
  rw[Ac m1,Ac m2]
 have k2:∀c∈C,f 2 c=f 2 x:=dD0 (g:=f 2) x C λs q M=>by
  have J:q∈C:=V1 M
  have he:EE x y C s q:=by
   unfold EE
   have:x::(C++[y])=(x::C)++[y]:=rfl
   rw[lin_iff]at M ⊢;obtain⟨p,w,e⟩:=M;exact⟨p,w++[y],by rw[this,e];simp⟩
  have:=fb 2 s q (j8 E he)
  have fc:=fC q J
  have z2:z 2 q=false:=by
   rw[zz 2 q (Ne.symm v2) fc.2.2.2,lkC q J];cases hz:B 2 q with
   | false=>rfl
   | true=>
    have:=Z.sup 2 q hz
    rw[E.new2]at this;simp only[Aa4,Aa5,Aa0,Aa1,not_or]at nd2 this;grind
  rw[z2]at this;cases h1:f 2 s <;> cases Q:f 2 q <;> simp[h1,Q]at this ⊢
 generalize hκ:f 2 x=κ at k2;have aD:∀a b,adj (row' v) a b↔EE x y C a b\/(a=y/\b=2)\/(a=2/\b=x):=λa b=>by
  rw[E.newv];unfold adj EE
  have:x::(C++[y,2])++List.take 1 (x::(C++[y,2]))=(x::C)++y::[2,x]:=by simp
  rw[this,D4];simp only[B9,aA8,or_false]
  simp
 have fk:∀a b,adj (row' v) a b->f a b=κ:=λa b Y=>by
  have ee:∀{a b},EE x y C a b->f 2 a=κ:=λ{a b} he=>by
   rcases (y9 he).1 with rfl | hc
   .exact hκ
   .exact k2 a hc
  rcases (aD a b).mp Y with he | ⟨rfl,rfl⟩ | ⟨rfl,rfl⟩
  .rw[<- fr 2 a b (j8 E he)];exact ee he
  .
   obtain⟨t,ht⟩:∃t,EE x a C t a:=by
    unfold EE;rcases Ac5 (x::C) with h | ⟨p,t,h⟩
    .cases h
    .refine⟨t,lin_iff.mpr ⟨p,[],?_⟩⟩
     have:x::(C++[a])=(x::C)++[a]:=rfl
     rw[this,h];simp
   have h1:=j8 E ht
   have N:=E.tri _ _ _ h1
   rw[<- fr _ _ _ N,<- fr _ _ _ h1];exact ee ht
  .exact hκ
 refine⟨λp q=>if p=v then xor κ (G q) else if q=v then xor κ (xor (G p) (B v p)) else if adj (row' v) p q then xor κ (G p) else f p q,λq a b U=>?_,λp s q F=>?_⟩
 .have N:=E.tri' _ _ _ U
  have t2:=E.tri' _ _ _ N
  have gp:∀{a b},adj (row' v) a b->xor (G b) (B v b)=G a:=λ{a b} h=>by rw[<- hG a b h];cases G a <;> cases G b <;> rfl
  dsimp only
  by_cases J:q=v
  .subst J;have i:=X U;rw[Ae rfl,Ac i.2.2.1,Ac i.2.2.2,Ae U]
  by_cases Y:a=v
  .subst Y;have i:=X N;rw[Ac J,Ae rfl,Ae rfl,gp N]
  by_cases hb:b=v
  .subst hb;rw[Ac J,Ac Y,Ae t2,Ac Y,Ae rfl,gp t2]
  .have n1:¬adj (row' v) q a:=λh=>hb (aJ1 (E.nd' q) U (E.tri' _ _ _ h))
   have n2:¬adj (row' v) a b:=λh=>J (aJ1 (E.nd' a) N (E.tri' _ _ _ h))
   rw[Ac J,Ac Y,Ac n1,Ac Y,Ac hb,Ac n2];rcases (bR8 E q a b).mp U with⟨h1,_⟩ | h1
   .exact fr _ _ _ h1
   .unfold W' at h1;grind
 .have N:=E.tri' _ _ _ F
  have t2:=E.tri' _ _ _ N
  dsimp only
  by_cases hp:p=v
  .subst hp;rw[Ae rfl,Ae rfl,<- hG s q F];cases κ <;> cases G s <;> cases G q <;> rfl
  by_cases M:s=v
  .subst M;have i:=X N;have n1:¬adj (row' s) p q:=λh=>bF5 D hD3 N h
   rw[Ac hp,Ae rfl,Ac hp,Ac i.2.2.1,Ac n1];have P:=fb' p q (E.mem_old hp i.2.2.1 i.1);rw[fk q p N,zz p q hp i.2.2.1]at P;have l1:m p q=G q:=by simp only[m];rw[Ac n1,Ae N]
   rw[l1]at P;have e2:=hG q p N;rw[<- e2];cases h1:f p q <;> cases Q:B p q <;> cases h3:G q <;> cases h4:G p <;> cases h5:κ <;> simp[h1,Q,h3,h5]at P ⊢
  by_cases J:q=v
  .subst J;have i:=X t2;rw[Ac hp,Ac M,Ae t2,Ac hp,Ae rfl,Z.sym p q];cases κ <;> cases G p <;> cases B q p <;> rfl
  .have n1:¬adj (row' v) p s:=λh=>J (aJ1 (E.nd' p) F (E.tri' _ _ _ h))
   have n2:¬adj (row' v) q p:=λh=>M (bL7 (E.nd' p) F (E.tri' _ _ _ (E.tri' _ _ _ h)))
   have o:adj (row p) s q:=by
    rcases (bR8 E p s q).mp F with⟨h1,_⟩ | h1
    .exact h1
    .unfold W' at h1;grind
   have P:=fb p s q o
   rw[zz p q hp J]at P;rw[Ac hp,Ac M,Ac n1,Ac hp,Ac J];by_cases n3:adj (row' v) p q
   .have l1:m p q=G p:=by simp only[m];rw[Ae n3]
    rw[Ae n3];rw[l1,fk p q n3]at P;cases h1:f p s <;> cases Q:B p q <;> cases h3:G p <;> cases h5:κ <;> simp[h1,Q,h3,h5]at P ⊢
   .have l1:m p q=false:=by simp only[m];rw[Ac n3,Ac n2]
    rw[Ac n3,P,l1];simp
end
theorem cT9 (R:Rws F G m):∀i,i<=m->H1 (gst F G i).row
 | 0,_=>cQ8
 | i+1,hi=>by
  have I:=N9 R i (by lia)
  have f1:=R.f1 i (by lia)
  have f2:=R.f2 i (by lia)
  have z:=R.g1 i (by lia)
  have s:=R.g2 i (by lia)
  have h1:=I.p
  have Y:=I.h
  obtain⟨x,U,y,X,e,w,E,_⟩:=bH9 I.inv (a:=F i-pv F i) (b:=G i-pv G i) (by lia) (by lia)
  exact cX6 E (cT9 R i (by lia))
theorem bY0 (w:Nat->Bool)(f:Nat->Nat):∀l:List Nat,par w (l.map f)=par (λa=>w (f a)) l
 | []=>rfl
 | a::l=>by simp[par,bY0 w f l]
theorem cP7 (h:l.Perm m):par w l=par w m:=by
 induction h with
 | nil=>rfl
 | cons a _ z=>simp[par,z]
 | swap a b l=>simp only[par];cases w a <;> cases w b <;> cases par w l <;> rfl
 | trans _ _ h1 e=>exact h1.trans e
theorem H1.named (G:Good n r)(F:Nm n f)(h:∀v,v<n->r' (f v)=R4 ((r v).map f))(P:∀q,n<=q->r' q=[])(H:H1 r):H1 r':=by
 intro z' Z;have G':=G.named F h P;have gi:∀q,∃v,q<n->v<n/\f v=q:=λq=>by
  by_cases m:q<n
  .obtain⟨v,h1,U⟩:=F.surj q m;exact⟨v,λ_=>⟨h1,U⟩⟩
  .exact⟨0,λz=>absurd z m⟩
 let g:Nat->Nat:=λq=>Classical.choose (gi q)
 have hg:∀q,q<n->g q<n/\f (g q)=q:=λq m=>Classical.choose_spec (gi q) m
 have N:∀v,v<n->g (f v)=v:=λv Y=>F.inj _ _ (hg _ (F.lt v Y)).1 Y (hg _ (F.lt v Y)).2
 have R:∀v,v<n->∀x,x∈r' (f v)↔∃a,a∈r v/\x=f a:=λv Y x=>by
  rw[h v Y,begun_mem,Aa8];exact⟨λ⟨a,h1,U⟩=>⟨a,h1,U.symm⟩,λ⟨a,h1,U⟩=>⟨a,h1,U.symm⟩⟩
 have X:∀v,v<n->∀x y,adj (r' (f v)) x y↔∃a b,x=f a/\y=f b/\adj (r v) a b:=λv Y x y=>by rw[h v Y,bA5,bW7]
 have Z0:Cyc r λp q=>if p<n/\q<n then z' (f p) (f q) else false:=by
  refine⟨λp q=>?_,λp q D=>?_,λp=>?_⟩
  .by_cases h1:p<n <;> by_cases U:q<n <;> simp[h1,U,Z.sym (f p) (f q)]
  .by_cases h1:p<n/\q<n
   .rw[Ae h1]at D;obtain⟨a,ha,e⟩:=(R p h1.1 _).mp (Z.sup _ _ D);rw[F.inj q a h1.2 (G.lt p a ha) e];exact ha
   .rw[Ac h1]at D;cases D
  .by_cases hp:p<n
   .have ev:=Z.ev (f p)
    rw[h p hp,cP7 (j9 _),bY0]at ev;rw[<- ev];exact aA6 λq m=>by simp[hp,G.lt p q m]
   .rw[G.hi p (by lia)];rfl
 obtain⟨f0,fr,fb⟩:=H _ Z0;refine⟨λp q=>f0 (g p) (g q),λq a b J=>?_,λp s q M=>?_⟩
 .have m:q<n:=by
   by_cases m:q<n
   .exact m
   .rw[P q (by lia)]at J;exact absurd (C7 J).1 (by simp)
  obtain⟨v,Y,rfl⟩:=F.surj q m;obtain⟨c,d,rfl,rfl,w⟩:=(X v Y a b).mp J;have B:=G.lt v c (C7 w).1;have Q:=G.lt v d (C7 w).2;dsimp only;rw[N v Y,N c B,N d Q];exact fr _ _ _ w
 .have m:p<n:=by
   by_cases m:p<n
   .exact m
   .rw[P p (by lia)]at M;exact absurd (C7 M).1 (by simp)
  obtain⟨v,Y,rfl⟩:=F.surj p m;obtain⟨c,d,rfl,rfl,w⟩:=(X v Y s q).mp M;have B:=G.lt v c (C7 w).1;have Q:=G.lt v d (C7 w).2;dsimp only;rw[N v Y,N c B,N d Q,fb _ _ _ w]
  simp[Y,Q]
theorem Bt.h1 {F G:Nat->Nat}{m:Nat}{f:Nat->Nat}{d t:List (List Nat)}(B:Bt F G m f d t):H1 (trn d):=by
 refine H1.named (bP8 B.R) B.N (λv w=>?_) (λq e=>?_) (cT9 B.R m (Aa7 _))
 .unfold trn;rw[B.dr v w];rfl
 .unfold trn;rw[Ad6 (by rw[B.dl];exact e)];rfl
theorem aS3 (e:l=u++w)(h:adj (w++u) s q):adj l s q:=by
 rw[e];exact(o8 u w s q).mp h
section
variable {r:Nat->List Nat}{n:Nat}{rim:List Nat}{R:Nat->Prop}
def gi (rim:List Nat)(k:Nat):Nat:=rim.getD k 0
theorem aO7 {k:Nat}(h:k<rim.length):rim[k]? = some (gi rim k):=by
 unfold gi;rw[Ac0,Aa2 h];rfl
theorem cL3 (h:k<rim.length):gi rim k∈rim:=Aw (aO7 h)
theorem bQ9 (X:rim.Nodup)(w:j<rim.length)(z:k<rim.length)(e:gi rim j=gi rim k):j=k:=by
 have h1:=aO7 w
 have s:=aO7 z
 rw[<- e]at s;rw[Aa2 w]at h1;rw[Aa2 z]at s;have e':rim[j]=rim[k]:=by rw[Ab4 h1,Ab4 s]
 by_cases Y:j<k
 .exact absurd e' (List.pairwise_iff_getElem.mp X j k w z Y)
 .by_cases m:k<j
  .exact absurd e'.symm (List.pairwise_iff_getElem.mp X k j z w m)
  .lia
theorem aS1 (h:k+1<rim.length):adj rim (gi rim k) (gi rim (k+1)):=by
 refine adj_iff.mpr (.inl ⟨rim.take k,rim.drop (k+2),?_⟩);have h1:=aO7 (rim:=rim) (k:=k) (by lia)
 have e:=aO7 h
 rw[Aa2 (by lia)]at h1
 rw[Aa2 h]at e;rw[<- Ab4 h1,<- Ab4 e];rw[<- List.drop_eq_getElem_cons h,<- List.drop_eq_getElem_cons (show k<rim.length by lia),Ad3]
theorem bG7 (h:0<rim.length):adj rim (gi rim (rim.length-1)) (gi rim 0):=by
 refine adj_iff.mpr (.inr ⟨rim.take (rim.length-1),?_,?_⟩)
 .have h1:=aO7 (rim:=rim) (k:=rim.length-1) (by lia)
  rw[Aa2 (by lia)]at h1
  rw[<- Ab4 h1]
  have:=Ad3 (rim.length-1) rim
  rw[Cv (by lia),List.drop_eq_nil_of_le (by lia)]at this
  exact this.symm
 .rw[List.head?_eq_getElem?];exact aO7 h
end
theorem Q5 {L:List Nat}{q:Nat}(h:q∈L):gi L (L.idxOf q)=q:=by
 unfold gi;rw[Ac0,Aa2 (Bg.mpr h)]
 simp
theorem cH8 {L:List Nat}(e:L.Nodup){k:Nat}(h:k<L.length):L.idxOf (gi L k)=k:=
 bQ9 e (Bg.mpr (cL3 h)) h (Q5 (cL3 h))
theorem dM7 {L:List Nat}{f:Nat->Bool}{u w:Nat}(J:L.Nodup)(h:∀a b,adj L a b->xor (f a) (f b)=decide (b=u\/b=w))(Y:u∈L)(X:w∈L)(m:u≠w) :
  ∀k,k<L.length->(f (gi L k)=f (gi L 0)↔((0<L.idxOf w/\L.idxOf w<=k)↔(0<L.idxOf u/\L.idxOf u<=k)))
 | 0,hk=>by simp;lia
 | k+1,hk=>by
  have U:=dM7 J h Y X m k (by lia)
  have s:=h _ _ (aS1 hk)
  have N:gi L (k+1)=u↔L.idxOf u=k+1:=⟨λe=>by rw[<- e];exact cH8 J hk,λe=>by rw[<- e];exact Q5 Y⟩
  have R:gi L (k+1)=w↔L.idxOf w=k+1:=⟨λe=>by rw[<- e];exact cH8 J hk,λe=>by rw[<- e];exact Q5 X⟩
  have Q:L.idxOf u≠L.idxOf w:=λe=>m (by rw[<- Q5 Y,<- Q5 X,e])
  by_cases h1:L.idxOf u=k+1
  .have s:xor (f (gi L k)) (f (gi L (k+1)))=true:=by rw[s];simp[N.mpr h1]
   have e:(f (gi L (k+1))=f (gi L 0))↔¬(f (gi L k)=f (gi L 0)):=by
    revert s;cases f (gi L k) <;> cases f (gi L (k+1)) <;> cases f (gi L 0) <;> simp
   rw[e,U];lia
  .by_cases M:L.idxOf w=k+1
   .have s:xor (f (gi L k)) (f (gi L (k+1)))=true:=by rw[s];simp[R.mpr M]
    have e:(f (gi L (k+1))=f (gi L 0))↔¬(f (gi L k)=f (gi L 0)):=by
     revert s;cases f (gi L k) <;> cases f (gi L (k+1)) <;> cases f (gi L 0) <;> simp
    rw[e,U];lia
   .have s:xor (f (gi L k)) (f (gi L (k+1)))=false:=by
     rw[s];rw[Df];intro z;rcases z with z | z
     .exact h1 (N.mp z)
     .exact M (R.mp z)
    have e:f (gi L (k+1))=f (gi L k):=by
     revert s;cases f (gi L k) <;> cases f (gi L (k+1)) <;> simp
    rw[e,U];lia
theorem arc {L:List Nat}{f:Nat->Bool}{u w:Nat}(U:L.Nodup)(h:∀a b,adj L a b->xor (f a) (f b)=decide (b=u\/b=w))(X:u∈L)(m:w∈L)(s:u≠w){q:Nat}(Y:q∈L) :
  (L.idxOf w<L.idxOf u->(f q=f w↔L.idxOf w<=L.idxOf q/\L.idxOf q<L.idxOf u))/\(L.idxOf u<L.idxOf w->(f q=f w↔¬(L.idxOf u<=L.idxOf q/\L.idxOf q<L.idxOf w))):=by
 have a:=dM7 U h X m s _ (Bg.mpr Y)
 have b:=dM7 U h X m s _ (Bg.mpr m)
 rw[Q5 Y]at a;rw[Q5 m]at b;have e:(f q=f w)↔((f q=f (gi L 0))↔(f w=f (gi L 0))):=by
  cases f q <;> cases f w <;> cases f (gi L 0) <;> simp
 rw[e,a,b];constructor <;> intro z <;> lia
structure Cy (r:Nat->List Nat)(g:Nat->Nat)(n:Nat):Prop where
 n2:2<=n
 inj:∀j k,j<=n->k<=n->g j=g k->j=k
 tie:∀k,k<n->g (k+1)∈r (g k)
 tie0:g 0∈r (g n)
def nz (g:Nat->Nat)(n k:Nat):Nat:=if k=n then g 0 else g (k+1)
def pz (g:Nat->Nat)(n k:Nat):Nat:=if k=0 then g n else g (k-1)
noncomputable def zc (g:Nat->Nat)(n x y:Nat):Bool:=decide (∃k,k<=n/\((x=g k/\y=nz g n k)\/(y=g k/\x=nz g n k)))
theorem dS9 (h:k<=n):∃k',k'<=n/\nz g n k=g k':=by
 unfold nz;by_cases e:k=n
 .rw[Ae e];exact⟨0,by lia,rfl⟩
 .rw[Ac e];exact⟨k+1,by lia,rfl⟩
section
variable {r:Nat->List Nat}{g:Nat->Nat}{n:Nat}
theorem Cy.at_ (C:Cy r g n){k y:Nat}(h:k<=n):zc g n (g k) y=true↔(y=pz g n k\/y=nz g n k):=by
 unfold zc;rw[decide_eq_true_iff];constructor
 .rintro⟨Y,m,⟨s,w⟩ | ⟨s,w⟩⟩
  .have:=C.inj _ _ h m s
   subst this;exact .inr w
  .left
   unfold nz at w;unfold pz;by_cases z:Y=n
   .rw[Ae z]at w
    have:=C.inj _ _ h (by lia) w
    rw[Ae this,s,z]
   .rw[Ac z]at w
    have:=C.inj _ _ h (by lia) w
    rw[Ac (by lia),s,this];rfl
 .rintro (e | e)
  .unfold pz at e;by_cases z:k=0
   .rw[Ae z]at e;exact⟨n,by lia,.inr ⟨e,by unfold nz;rw[Ae rfl,z]⟩⟩
   .rw[Ac z]at e;exact⟨k-1,by lia,.inr ⟨e,by unfold nz;rw[Ac (by lia)];congr 1;lia⟩⟩
  .exact⟨k,h,.inl ⟨rfl,e⟩⟩
theorem dL5 (x y:Nat):zc g n x y=zc g n y x:=by
 unfold zc
 congr 1
 apply propext
 constructor <;> rintro⟨k,h,z⟩ <;> exact⟨k,h,z.symm⟩
theorem cT3 (h:∀k,k<=n->x≠g k):zc g n x y=false:=by
 unfold zc;rw[Df];rintro⟨k,w,⟨e,_⟩ | ⟨_,e⟩⟩
 .exact h k w e
 .obtain⟨s,z,e'⟩:=dS9 (g:=g) w;exact h s z (e.trans e')
theorem Cy.ne (C:Cy r g n){k:Nat}(h:k<=n):pz g n k≠nz g n k:=by
 have w:=C.n2
 unfold pz nz;intro e;by_cases a:k=0 <;> by_cases b:k=n
 .lia
 .rw[Ae a,Ac b]at e
  have:=C.inj _ _ (by lia) (by lia) e;lia
 .rw[Ac a,Ae b]at e
  have:=C.inj _ _ (by lia) (by lia) e;lia
 .rw[Ac a,Ac b]at e
  have:=C.inj _ _ (by lia) (by lia) e;lia
structure Rs (r:Nat->List Nat):Prop where
 nd:∀q,(r q).Nodup
 self:∀q,q∉r q
 tri:∀q a b,adj (r q) a b->adj (r a) b q
 sym:∀p q,q∈r p->p∈r q
 h1:H1 r
theorem Cy.nz_mem (S:Rs r)(C:Cy r g n){k:Nat}(h:k<=n):nz g n k∈r (g k):=by
 unfold nz;by_cases e:k=n
 .rw[Ae e,e];exact C.tie0
 .rw[Ac e];exact C.tie k (by lia)
theorem Cy.pz_mem (S:Rs r)(C:Cy r g n){k:Nat}(h:k<=n):pz g n k∈r (g k):=by
 unfold pz;by_cases e:k=0
 .rw[Ae e,e];exact S.sym _ _ C.tie0
 .rw[Ac e]
  have:=C.tie (k-1) (by lia)
  rw[show k-1+1=k by lia]at this
  exact S.sym _ _ this
theorem Cy.cyc (S:Rs r)(C:Cy r g n):Cyc r (zc g n):=by
 refine⟨dL5,λp q h=>?_,λp=>?_⟩
 .by_cases hp:∃k,k<=n/\p=g k
  .obtain⟨k,w,rfl⟩:=hp;rcases (C.at_ w).mp h with e | e
   .rw[e];exact C.pz_mem S w
   .rw[e];exact C.nz_mem S w
  .rw[cT3 λk w e=>hp ⟨k,w,e⟩]at h;cases h
 .by_cases hp:∃k,k<=n/\p=g k
  .obtain⟨k,w,rfl⟩:=hp;rw[cB1 (C.ne w) (S.nd _) (C.pz_mem S w) (C.nz_mem S w) λa _ h1 s=>by
    rw[Bool.eq_false_iff];intro z;rcases (C.at_ w).mp z with e | e;exact h1 e;exact s e]
   rw[(C.at_ w).mpr (.inl rfl),(C.at_ w).mpr (.inr rfl)];rfl
  .exact aA2 λa _=>cT3 λk w e=>hp ⟨k,w,e⟩
theorem cK2 {l:List Nat}{y:Nat}(h:y∈l):∃q,adj l y q:=by
 obtain⟨p,s,e⟩:=Ad5 h;cases s with
 | cons q s=>exact⟨q,adj_iff.mpr (.inl ⟨p,s,e⟩)⟩
 | nil=>
  cases w:l.head? with
  | none=>rw[List.head?_eq_none_iff]at w;rw[w]at h;cases h
  | some q=>exact⟨q,adj_iff.mpr (.inr ⟨p,e,w⟩)⟩
structure Sd (r:Nat->List Nat)(g:Nat->Nat)(n:Nat)(f:Nat->Nat->Bool)(s:Bool):Prop where
 fa:∀q a b,adj (r q) a b->f q a=f a b
 fb:∀p s q,adj (r p) s q->xor (f p s) (f p q)=zc g n p q
 fs:∀k,k<=n->f (g k) (nz g n k)=s
theorem Cy.arc (S:Rs r)(C:Cy r g n){f:Nat->Nat->Bool}(X:∀p s q,adj (r p) s q->xor (f p s) (f p q)=zc g n p q){k:Nat}(e:k<=n){u w L:List Nat}(z:r (g k)=u++w)(m:w++u=L){q:Nat}(U:q∈L) :
  (L.idxOf (nz g n k)<L.idxOf (pz g n k)->(f (g k) q=f (g k) (nz g n k)↔L.idxOf (nz g n k)<=L.idxOf q/\L.idxOf q<L.idxOf (pz g n k)))/\(L.idxOf (pz g n k)<L.idxOf (nz g n k)->(f (g k) q=f (g k) (nz g n k)↔¬(L.idxOf (pz g n k)<=L.idxOf q/\L.idxOf q<L.idxOf (nz g n k)))):=by
 have mem:∀x,x∈r (g k)->x∈L:=λx Y=>by rw[<- m,Aa0];rw[z,Aa0]at Y;exact Y.symm
 have J:L.Nodup:=by
  have:=S.nd (g k)
  rw[z]at this;rw[<- m];exact(Dy.nodup_iff).mp this
 refine TT.arc (f:=f (g k)) J (λa b h=>?_) (mem _ (C.pz_mem S e)) (mem _ (C.nz_mem S e)) (C.ne e) U
 rw[X _ _ _ (aS3 z (by rw[m];exact h)),Dh,C.at_ e]
 simp
theorem Cy.sd (S:Rs r)(C:Cy r g n):∃f s,Sd r g n f s:=by
 obtain⟨f,U,m⟩:=S.h1 _ (C.cyc S);refine⟨f,f (g 0) (nz g n 0),U,m,?_⟩;intro k;induction k with
 | zero=>intro _;rfl
 | succ k X=>
  intro w;have X:=X (by lia)
  rw[<- X];have e:nz g n k=g (k+1):=by unfold nz;rw[Ac (by lia)]
  have e':pz g n (k+1)=g k:=by unfold pz;rw[Ac (by lia)];rfl
  rw[e];obtain⟨q,M⟩:=cK2 (C.tie k (by lia))
  rw[U _ _ _ M];have J:=m _ _ _ (S.tri _ _ _ M);rw[(C.at_ w).mpr (.inl e'.symm)]at J;have Y:=C.arc S m w (u:=[]) rfl rfl (q:=g k) (by simpa using S.sym _ _ (C.tie k (by lia)))
  rw[e']at Y;have R:(r (g (k+1))++[]).idxOf (nz g n (k+1))≠(r (g (k+1))++[]).idxOf (g k):=λz=>C.ne w (by
   rw[<- Q5 (L:=r (g (k+1))++[]) (q:=nz g n (k+1)) (by simpa using C.nz_mem S w),z,Q5 (by simpa[e']using C.pz_mem S w),e'])
  have N:f (g (k+1)) (g k)≠f (g (k+1)) (nz g n (k+1)):=by
   intro z;rcases Nat.lt_or_gt_of_ne R with l | l
   .have:=(Y.1 l).mp z;lia
   .have:=(Y.2 l).mp z;lia
  revert J N
  cases f (g (k+1)) q <;> cases f (g (k+1)) (g k) <;> cases f (g (k+1)) (nz g n (k+1)) <;> simp
end
inductive Rc (r:Nat->List Nat)(sh:Nat->Nat->Prop)(a b:Nat):Nat->Nat->Prop
 | base:Rc r sh a b a b
 | rot {q x y:Nat}:Rc r sh a b q x->adj (r q) x y->Rc r sh a b x y
 | cross {p q:Nat}:Rc r sh a b p q->q∈r p->¬sh p q->Rc r sh a b q p
theorem cI2 {l:List Nat}{P:Nat->Prop}(h:∀s q,adj l s q->P s->P q){s:Nat}(J:s∈l)(p:P s):∀q∈l,P q:=by
 obtain⟨u,w,e⟩:=Ad5 J;have Y:l=u++(s::w):=e;have m:∀k,k<((s::w)++u).length->P (gi ((s::w)++u) k):=by
  intro k;induction k with
  | zero=>intro _;exact p
  | succ k M=>intro U;exact h _ _ (aS3 Y (aS1 U)) (M (by lia))
 intro q X;have z:q∈(s::w)++u:=by rw[Y]at X;exact Aa0.mpr (Aa0.mp X).symm
 have:=m _ (Bg.mpr z)
 rwa [Q5 z]at this
theorem aR5 {n:Nat}{r:Nat->List Nat}(G:Good n r){P:Nat->Nat->Prop}(rot:∀q x y,adj (r q) x y->P q x->P x y)(J:∀p q,q∈r p->P p q->P q p){a b:Nat}(M:b∈r a)(h:P a b):∀p q,q∈r p->P p q:=by
 have one:∀p q,q∈r p->P p q->∀x∈r p,P p x:=λp q X hp=>cI2 (P:=P p) (λs x U D=>by
  have h1:=rot _ _ _ U D
  have R:=G.tri _ _ _ U
  have Q:=rot _ _ _ R h1
  exact J _ _ (G.sym (C7 U).2) Q) X hp
 have ne:∀x,x<n->∃y,y∈r x:=λx Y=>by
  have:=G.two x Y
  cases e:r x with
  | nil=>rw[e]at this;simp at this
  | cons y l=>exact⟨y,by simp⟩
 have lt:∀{x y},y∈r x->x<n:=λ{x y} w=>by
  rcases Cz x n with z | z
  .exact z
  .rw[G.hi x z]at w;cases w
 have st:∀x y,y∈r x->(∀q∈r x,P x q)->∀q∈r y,P y q:=λx y w Y=>one y x (G.sym w) (J _ _ w (Y y w))
 have m:=G.conn (λx=>(∀q∈r x,P x q)↔(∀q∈r 0,P 0 q)) Iff.rfl (λx y Y w=>Iff.trans ⟨st y x (G.sym w),st x y w⟩ Y)
 have N:∀q∈r 0,P 0 q:=(m a (lt M)).mp (one a b M h)
 intro p q X;exact(m p (lt X)).mpr N q X
section
variable {n:Nat}{r:Nat->List Nat}{g:Nat->Nat}{N:Nat}{f:Nat->Nat->Bool}{s:Bool}{a b:Nat}
theorem Cy.ofList (z:l.Nodup)(m:3<=l.length)(h:∀a b,adj l a b->b∈r a):Cy r (gi l) (l.length-1):=by
 refine⟨by lia,λj k Y w e=>bQ9 z (by lia) (by lia) e,λk w=>h _ _ (aS1 (by lia)),h _ _ (bG7 (by lia))⟩
theorem cX1 (U:l.Nodup)(h3:3<=l.length):zc (gi l) (l.length-1) x y=true↔(adj l x y\/adj l y x):=by
 have X:∀k,k<=l.length-1->adj l (gi l k) (nz (gi l) (l.length-1) k):=λk Y=>by
  unfold nz;by_cases e:k=l.length-1
  .rw[Ae e,e];exact bG7 (by lia)
  .rw[Ac e];exact aS1 (by lia)
 have un:∀{x y D},adj l x y->adj l x D->y=D:=λ{x y D} h B=>by
  obtain⟨h1,_⟩:=C7 h;rcases adj_iff.mp h with⟨p,s,e⟩ | ⟨p,e,hb⟩
  .rcases adj_iff.mp B with⟨J,s',e'⟩ | ⟨J,e',m⟩
   .have P:=K6 U e
    have i2:=K6 U e'
    have:p.length=J.length:=by lia
    have:=List.append_inj (e.symm.trans e') this
    simpa using(List.cons.inj (List.cons.inj this.2).2).1
   .have P:=K6 U e
    have i2:=K6 U (p:=J) (s:=[]) e'
    have R:=congrArg List.length e
    have Q:=congrArg List.length e'
    simp at R Q;lia
  .rcases adj_iff.mp B with⟨J,s',e'⟩ | ⟨J,e',m⟩
   .have P:=K6 U (p:=p) (s:=[]) e
    have i2:=K6 U e'
    have R:=congrArg List.length e
    have Q:=congrArg List.length e'
    simp at R Q;lia
   .rw[hb]at m;exact Ab4 m
 unfold zc;rw[decide_eq_true_iff];constructor
 .rintro⟨k,Y,⟨w,z⟩ | ⟨w,z⟩⟩
  .rw[w,z];exact .inl (X k Y)
  .rw[w,z];exact .inr (X k Y)
 .have F:∀{x y},adj l x y->∃k,k<=l.length-1/\x=gi l k/\y=nz (gi l) (l.length-1) k:=λ{x y} h=>by
   have M:=(C7 h).1
   have hl:=Bg.mpr M
   refine⟨l.idxOf x,by lia,(Q5 M).symm,?_⟩
   have:=X (l.idxOf x) (by lia)
   rw[Q5 M]at this;exact un h this
  rintro (h | h)
  .obtain⟨k,Y,w,z⟩:=F h;exact⟨k,Y,.inl ⟨w,z⟩⟩
  .obtain⟨k,Y,w,z⟩:=F h;exact⟨k,Y,.inr ⟨w,z⟩⟩
end
section
variable {n:Nat}{r:Nat->List Nat}{v:Nat}{w:Nat->List Nat}
theorem dO2 (m:l.Nodup)(h:adj l x y)(h':adj l x y'):y=y':=by
 rcases adj_iff.mp h with⟨p,s,e⟩ | ⟨p,e,N⟩
 .rcases adj_iff.mp h' with⟨Y,R,e'⟩ | ⟨Y,e',z⟩
  .have J:=K6 m e
   have M:=K6 m e'
   have:=List.append_inj (e.symm.trans e') (by lia)
   simpa using(List.cons.inj (List.cons.inj this.2).2).1
  .have J:=K6 m e
   have M:=K6 m (p:=Y) (s:=[]) e'
   have X:=congrArg List.length e
   have U:=congrArg List.length e'
   simp at X U;lia
 .rcases adj_iff.mp h' with⟨Y,R,e'⟩ | ⟨Y,e',z⟩
  .have J:=K6 m (p:=p) (s:=[]) e
   have M:=K6 m e'
   have X:=congrArg List.length e
   have U:=congrArg List.length e'
   simp at X U;lia
  .rw[N]at z;exact Ab4 z
theorem Good.outs (G:Good n r):adj (r 0) 2 1/\adj (r 2) 1 0/\adj (r 1) 0 2:=⟨G.tri _ _ _ (G.tri _ _ _ G.out),G.out,G.tri _ _ _ G.out⟩
end
def prd (l:List Nat)(x:Nat):Nat:=if l.idxOf x=0 then gi l (l.length-1) else gi l (l.idxOf x-1)
theorem cW3 (h:x∈l):adj l (prd l x) x:=by
 have w:=Bg.mpr h
 unfold prd;by_cases e:l.idxOf x=0
 .rw[Ae e]
  have:=bG7 (rim:=l) (by lia)
  rwa [<- e,Q5 h]at this
 .rw[Ac e]
  have:=aS1 (rim:=l) (k:=l.idxOf x-1) (by lia)
  rwa [show l.idxOf x-1+1=l.idxOf x by lia,Q5 h]at this
def th (r:Nat->List Nat)(p q:Nat):Nat:=prd (r q) p
def nrm (x y z:Nat):List Nat:=if x<y/\x<z then [x,y,z] else if y<z/\y<x then [y,z,x] else [z,x,y]
def lnd (r:Nat->List Nat)(p q:Nat):List Nat:=nrm p q (th r p q)
section
variable {n:Nat}{r:Nat->List Nat}
theorem Good.th (G:Good n r)(h:q∈r p):adj (r p) q (th r p q):=G.tri _ _ _ (G.tri _ _ _ (cW3 (G.sym h)))
theorem Good.th_mem (G:Good n r)(h:q∈r p):TT.th r p q∈r q/\p∈r (TT.th r p q):=by
 have:=G.th h
 have h1:=C7 (G.tri _ _ _ this)
 have e:=C7 (G.tri _ _ _ (G.tri _ _ _ this))
 exact⟨h1.1,e.1⟩
theorem Good.th_ne (G:Good n r)(h:q∈r p):p≠q/\q≠TT.th r p q/\p≠TT.th r p q:=by
 have s:∀{a b},b∈r a->a≠b:=λ{a b} h e=>G.self a (by rw[<- e]at h;exact h)
 have:=G.th_mem h
 exact⟨s h,s this.1,λe=>s this.2 e.symm⟩
theorem Good.th_un (G:Good n r)(h:adj (r p) q x):x=TT.th r p q:=dO2 (G.nd p) h (G.th (C7 h).1)
theorem Good.th_rot (G:Good n r)(h:q∈r p):TT.th r q (TT.th r p q)=p:=(G.th_un (G.tri _ _ _ (G.th h))).symm
theorem Good.th_rot2 (G:Good n r)(h:q∈r p):TT.th r (TT.th r p q) p=q:=(G.th_un (G.tri _ _ _ (G.tri _ _ _ (G.th h)))).symm
theorem cY6 (h1:x≠y)(e:y≠z)(w:x≠z):nrm x y z=nrm y z x:=by
 unfold nrm;by_cases a:x<y/\x<z
 .rw[Ae a,Ac (by lia),Ac (by lia)]
 .rw[Ac a];by_cases b:y<z/\y<x
  .rw[Ae b,Ae (by lia)]
  .rw[Ac b,Ac (by lia),Ae (by lia)]
theorem Good.lnd_rot (G:Good n r)(h:q∈r p):lnd r p q=lnd r q (TT.th r p q):=by
 obtain⟨a,b,c⟩:=G.th_ne h;unfold lnd;rw[G.th_rot h];exact cY6 a b c
theorem R6 (x y z:Nat):nrm x y z=[x,y,z]\/nrm x y z=[y,z,x]\/nrm x y z=[z,x,y]:=by
 unfold nrm;split
 .exact .inl rfl
 .split
  .exact .inr (.inl rfl)
  .exact .inr (.inr rfl)
theorem Good.lnd_eq (G:Good n r)(h:q∈r p)(h':q'∈r p')(e:lnd r p q=lnd r p' q'):(p'=p/\q'=q)\/(p'=q/\q'=TT.th r p q)\/(p'=TT.th r p q/\q'=p):=by
 have m:=G.th_rot h'
 have Y:=G.th_rot2 h'
 have z:=G.th_rot h
 have s:=G.th_rot2 h
 unfold lnd at e;generalize TT.th r p q=t at *;generalize w:TT.th r p' q'=t' at *;rcases R6 p q t with e1 | e1 | e1 <;> rcases R6 p' q' t' with e2 | e2 | e2 <;> rw[e1,e2]at e <;> simp only[Bd,and_true]at e <;> obtain⟨a,b,c⟩:=e <;> subst a b c <;> simp
theorem cJ4 (G:Good n r){P:Nat->Nat->Prop}(rot:∀q x y,adj (r q) x y->(P q x↔P x y)){p q p' q':Nat}(h:q∈r p)(h':q'∈r p')(e:lnd r p q=lnd r p' q'):P p q↔P p' q':=by
 have w:=rot _ _ _ (G.th h)
 have z:=rot _ _ _ (G.tri _ _ _ (G.th h))
 rcases G.lnd_eq h h' e with⟨rfl,rfl⟩ | ⟨rfl,rfl⟩ | ⟨rfl,rfl⟩
 .exact Iff.rfl
 .exact w
 .exact w.trans z
def gps (r:Nat->List Nat)(n:Nat):List (Nat×Nat):=((List.range n).map λp=>(r p).map λq=>(p,q)).flatten
theorem Good.gps_mem (G:Good n r):x∈gps r n↔x.2∈r x.1:=by
 unfold gps;simp only[List.mem_flatten,Aa8,Ab5];constructor
 .rintro⟨l,⟨p,hp,rfl⟩,w⟩;obtain⟨q,e,rfl⟩:=Aa8.mp w;exact e
 .intro h;refine⟨_,⟨x.1,?_,rfl⟩,Aa8.mpr ⟨x.2,h,rfl⟩⟩;rcases Cz x.1 n with z | z
  .exact z
  .rw[G.hi _ z]at h;cases h
theorem Good.gps_nd (G:Good n r):(gps r n).Nodup:=by
 unfold gps;have w:∀m,(((List.range m).map λp=>(r p).map λq=>(p,q)).flatten).Nodup:=λm=>by
  induction m with
  | zero=>simp
  | succ m Y=>
   rw[Cn,Ad2,List.flatten_append,Aa4];refine⟨Y,?_,λx z y s e=>?_⟩
   .simp only[Ac7,Cs,Ck,List.flatten_nil,Cd];rw[Ac6,Ae0];exact(Ac6.mp (G.nd m)).imp λ{a b} h e=>h (congrArg Prod.snd e)
   .subst e;simp only[List.mem_flatten,Aa8,Ab5,Ac7,Cs,Ck,List.flatten_nil,Cd]at z s;obtain⟨l,⟨p,hp,rfl⟩,h1⟩:=z;obtain⟨q,_,rfl⟩:=Aa8.mp h1;obtain⟨X,_,e⟩:=s
    have:=congrArg Prod.fst e
    simp at this;lia
 exact w n
theorem Good.gps_len (G:Good n r):(gps r n).length+12=6*n:=by
 have:=G.sum
 unfold gps;rw[List.length_flatten,Ae2];simpa[Function.comp_def]using this
def low (r:Nat->List Nat)(x:Nat×Nat):Bool:=decide (x.1<x.2)&&decide (x.1<th r x.1 x.2)
def rds (r:Nat->List Nat)(n:Nat):List (List Nat):=((gps r n).filter (low r)).map λx=>[x.1,x.2,th r x.1 x.2]
theorem T5 {a b c:Nat}(h1:a≠b)(e:b≠c)(w:a≠c):((a<b/\a<c)/\(¬b<a\/¬b<c)/\(¬c<a\/¬c<b))\/((¬a<b\/¬a<c)/\(b<a/\b<c)/\(¬c<a\/¬c<b))\/((¬a<b\/¬a<c)/\(¬b<a\/¬b<c)/\(c<a/\c<b)):=by lia
theorem bS7 {α:Type}[DecidableEq α]{l:List α}(w:l.Nodup):∀{m:List α},(∀x∈l,x∈m)->l.length<=m.length:=by
 induction l with
 | nil=>intro m _;simp
 | cons a l s=>
  intro m h;rw[Aa5]at w
  have:=s w.2 (m:=m.erase a) λx z=>by
   refine(List.mem_erase_of_ne ?_).mpr (h x (by simp[z]))
   intro e;subst e;exact w.1 z
  rw[Dc (h a (by simp))]at this
  have hp:0<m.length:=Di (h a (by simp))
  simp;lia
theorem Good.rds_len (G:Good n r):(rds r n).length+4=2*n:=by
 unfold rds;rw[Aa3];have tot:=G.gps_len
 let φ:Nat×Nat->Nat×Nat:=λx=>(x.2,TT.th r x.1 x.2)
 have mφ:∀x∈gps r n,φ x∈gps r n:=λx w=>G.gps_mem.mpr (G.th_mem (G.gps_mem.mp w)).1
 have B:∀x∈gps r n,∀y∈gps r n,φ x=φ y->x=y:=λx w y m e=>by
  have h1:x.2=y.2:=congrArg Prod.fst e
  have N:TT.th r x.1 x.2=TT.th r y.1 y.2:=congrArg Prod.snd e
  have F:=G.th_rot (G.gps_mem.mp w)
  have P:=G.th_rot (G.gps_mem.mp m)
  rw[N,h1]at F;exact Prod.ext (F.symm.trans P) h1
 let z:Nat×Nat->Bool:=λx=>decide (x.2<x.1)&&decide (x.2<TT.th r x.1 x.2)
 let s:Nat×Nat->Bool:=λx=>decide (TT.th r x.1 x.2<x.1)&&decide (TT.th r x.1 x.2<x.2)
 have nd:=G.gps_nd
 have Q:∀b:Nat×Nat->Bool,(((gps r n).filter b).map φ).Nodup:=λb=>by
  rw[Ac6,Ae0];exact Dd (λ{x y} w m R e=>R (B x (Au.mp w).1 y (Au.mp m).1 e)) (Ac6.mp (nd.filter b))
 have step:∀b X:Nat×Nat->Bool,(∀x∈gps r n,b x=true->X (φ x)=true)->((gps r n).filter b).length<=((gps r n).filter X).length:=λb X h=>by
  rw[<- Aa3 (f := φ) (as:=(gps r n).filter b)];refine bS7 (Q b) λy m=>?_
  obtain⟨x,w,rfl⟩:=Aa8.mp m;obtain⟨h1,N⟩:=Au.mp w;exact Au.mpr ⟨mφ x h1,h x h1 N⟩
 have s10:=step z (low r) λx w h=>by
  have k:=G.th_rot (G.gps_mem.mp w)
  simp only[z,low,φ,Ba,Ay]at h ⊢;rw[k];exact⟨h.2,h.1⟩
 have s21:=step s z λx w h=>by
  have k:=G.th_rot (G.gps_mem.mp w)
  simp only[z,s,φ,Ba,Ay]at h ⊢;rw[k];exact⟨h.2,h.1⟩
 have s02:=step (low r) s λx w h=>by
  have k:=G.th_rot (G.gps_mem.mp w)
  simp only[low,s,φ,Ba,Ay]at h ⊢;rw[k];exact⟨h.1,h.2⟩
 have Y:∀l:List (Nat×Nat),(∀x∈l,x∈gps r n)->(l.filter (low r)).length+(l.filter z).length+(l.filter s).length=l.length:=λl=>by
  induction l with
  | nil=>intro _;rfl
  | cons x l D=>
   intro h;have D:=D λy m=>h y (by simp[m])
   obtain⟨a,b,c⟩:=G.th_ne (G.gps_mem.mp (h x (by simp)))
   have d:(low r x=true/\z x=false/\s x=false)\/(low r x=false/\z x=true/\s x=false)\/(low r x=false/\z x=false/\s x=true):=by
    simp only[low,z,s,Ba,Bool.and_eq_false_iff,Ay,Df];exact T5 a b c
   rcases d with⟨U,J,M⟩ | ⟨U,J,M⟩ | ⟨U,J,M⟩ <;> simp only[List.filter_cons,U,J,M,if_true,Ar] <;> simp <;> lia
 have:=Y (gps r n) λ_ h=>h
 lia
theorem Good.rds_mem (G:Good n r):l∈rds r n↔∃p q,q∈r p/\l=lnd r p q:=by
 unfold rds;simp only[Aa8,Au];constructor
 .rintro⟨x,⟨X,z⟩,rfl⟩;refine⟨x.1,x.2,G.gps_mem.mp X,?_⟩;simp only[low,Ba,Ay]at z;unfold lnd nrm;rw[Ae z]
 .rintro⟨p,q,e,rfl⟩;obtain⟨a,b,c⟩:=G.th_ne e;have m:=G.th_mem e;have s:=G.th_rot e;have Y:=G.th_rot2 e;unfold lnd nrm;by_cases h1:p<q/\p<TT.th r p q
  .rw[Ae h1];exact⟨(p,q),⟨G.gps_mem.mpr e,by simp[low,h1]⟩,rfl⟩
  .rw[Ac h1];by_cases w:q<TT.th r p q/\q<p
   .rw[Ae w];exact⟨(q,TT.th r p q),⟨G.gps_mem.mpr m.1,by simp[low,s,w]⟩,by simp[s]⟩
   .rw[Ac w];exact⟨(TT.th r p q,p),⟨G.gps_mem.mpr m.2,by simp[low,Y];lia⟩,by simp[Y]⟩
theorem Good.rds_nd (G:Good n r):(rds r n).Nodup:=by
 unfold rds;rw[Ac6,Ae0];exact(Ac6.mp (G.gps_nd.filter _)).imp λ{x y} h e=>h (by
  simp only[Bd,and_true]at e;exact Prod.ext e.1 e.2.1)
end
def wys:List Nat->List (Nat×Nat)
 | [x,y,z]=>[(z,x),(x,y),(y,z)]
 | _=>[]
structure BS where
 rch:List (List Nat)
 crs:List (Nat×Nat)
 row:List (Nat×Nat)
 k:Nat
def stp (r:Nat->List Nat)(sh:List (Nat×Nat))(s:BS):BS:=
 if s.k<s.row.length then
  if lnd r (s.row.getD s.k (0,0)).2 (s.row.getD s.k (0,0)).1∉s.rch/\s.row.getD s.k (0,0)∉sh/\((s.row.getD s.k (0,0)).2,(s.row.getD s.k (0,0)).1)∉sh then
   ⟨s.rch++[lnd r (s.row.getD s.k (0,0)).2 (s.row.getD s.k (0,0)).1],s.crs++[s.row.getD s.k (0,0)],s.row++wys (lnd r (s.row.getD s.k (0,0)).2 (s.row.getD s.k (0,0)).1),s.k+1⟩
  else⟨s.rch,s.crs,s.row,s.k+1⟩
 else s
def run (r:Nat->List Nat)(sh:List (Nat×Nat))(s:BS):Nat->BS
 | 0=>s
 | m+1=>stp r sh (run r sh s m)
def ini (l:List Nat):BS:=⟨[l],[],wys l,0⟩
def shP (sh:List (Nat×Nat))(p q:Nat):Prop:=(p,q)∈sh\/(q,p)∈sh
section
variable {n:Nat}{r:Nat->List Nat}{sh:List (Nat×Nat)}{a b:Nat}
theorem Good.wys_lnd (G:Good n r)(h:q∈r p):x∈wys (lnd r p q)↔(x=(p,q)\/x=(q,TT.th r p q)\/x=(TT.th r p q,p)):=by
 unfold lnd;rcases R6 p q (TT.th r p q) with e | e | e <;> rw[e] <;> simp only[wys,Aa1,Ac2,or_false] <;> constructor <;> intro z <;> rcases z with z | z | z <;> simp[z]
theorem Good.wys_len (G:Good n r):(wys (lnd r p q)).length=3:=by
 unfold lnd;rcases R6 p q (TT.th r p q) with e | e | e <;> rw[e] <;> rfl
theorem Good.wys_back (G:Good n r)(h:q∈r p)(z:x∈wys (lnd r p q)):x.2∈r x.1/\lnd r x.1 x.2=lnd r p q:=by
 have m:=G.th_mem h
 have e:=G.lnd_rot h
 have w:=G.lnd_rot m.1
 rw[G.th_rot h]at w;rcases (G.wys_lnd h).mp z with rfl | rfl | rfl
 .exact⟨h,rfl⟩
 .exact⟨m.1,e.symm⟩
 .exact⟨m.2,(e.trans w).symm⟩
structure BI (n:Nat)(r:Nat->List Nat)(sh:List (Nat×Nat))(a b:Nat)(s:BS):Prop where
 e:s.rch=lnd r a b::s.crs.map λx=>lnd r x.2 x.1
 nd:s.rch.Nodup
 rc:∀l∈s.rch,∃p q,q∈r p/\l=lnd r p q/\Rc r (shP sh) a b p q
 row:s.row=(s.rch.map wys).flatten
 k:s.k<=s.row.length
 cl:∀i,i<s.k->¬shP sh (s.row.getD i (0,0)).1 (s.row.getD i (0,0)).2->lnd r (s.row.getD i (0,0)).2 (s.row.getD i (0,0)).1∈s.rch
 tc:∀x∈s.crs,x.2∈r x.1
theorem BI.row_mem (G:Good n r)(B:BI n r sh a b s)(h:x∈s.row):x.2∈r x.1/\lnd r x.1 x.2∈s.rch/\Rc r (shP sh) a b x.1 x.2:=by
 rw[B.row]at h;obtain⟨l,X,z⟩:=List.mem_flatten.mp h;obtain⟨U,e,rfl⟩:=Aa8.mp X;obtain⟨p,q,w,rfl,hr⟩:=B.rc U e;obtain⟨h1,Y⟩:=G.wys_back w z;refine⟨h1,by rw[Y];exact e,?_⟩
 have m:=Rc.rot hr (G.th w)
 have J:=Rc.rot m (G.tri _ _ _ (G.th w))
 rcases (G.wys_lnd w).mp z with rfl | rfl | rfl
 .exact hr
 .exact m
 .exact J
theorem BI.row_len (B:BI n r sh a b s)(G:Good n r):s.row.length=3*s.rch.length:=by
 rw[B.row]
 have:∀l:List (List Nat),(∀x∈l,x∈s.rch)->(l.map wys).flatten.length=3*l.length:=λl=>by
  induction l with
  | nil=>intro _;rfl
  | cons x l w=>
   intro h;obtain⟨p,q,_,rfl,_⟩:=B.rc x (h x (by simp))
   simp[G.wys_len,w λy e=>h y (by simp[e])];lia
 exact this _ λ_ h=>h
theorem BI.sub (G:Good n r)(B:BI n r sh a b s):s.rch.length+4<=2*n:=by
 have h:=bS7 B.nd (m:=rds r n) λl w=>by
  obtain⟨p,q,z,e,_⟩:=B.rc l w;exact G.rds_mem.mpr ⟨p,q,z,e⟩
 have:=G.rds_len
 lia
theorem dI1 (G:Good n r)(h:b∈r a):BI n r sh a b (ini (lnd r a b)):=
 ⟨rfl,by simp[ini],λl e=>by simp[ini]at e;exact⟨a,b,h,e,.base⟩,by simp[ini],by simp[ini],λi hi=>by simp[ini]at hi,λx w=>by simp[ini]at w⟩
theorem bN6 {α:Type}{l m:List α}{i:Nat}{d:α}(h:i<l.length):(l++m).getD i d=l.getD i d:=by
 rw[Ac0,Ac0,Bl h]
theorem BI.stp (G:Good n r)(B:BI n r sh a b s):BI n r sh a b (stp r sh s):=by
 unfold TT.stp;by_cases Y:s.k<s.row.length
 .rw[Ae Y];have M:s.row.getD s.k (0,0)∈s.row:=by rw[Ac0,Aa2 Y];exact Cr Y
  generalize X:s.row.getD s.k (0,0)=x at M;obtain⟨J,Q,R⟩:=B.row_mem G M;by_cases m:lnd r x.2 x.1∉s.rch/\x∉sh/\(x.2,x.1)∉sh
  .rw[Ae m];have U:¬shP sh x.1 x.2:=λz=>z.elim m.2.1 m.2.2
   refine⟨?_,?_,λl hl=>?_,?_,?_,λi hi w=>?_,λy hy=>?_⟩
   .show s.rch++_=lnd r a b::(s.crs++[x]).map _
    rw[B.e];simp
   .show(s.rch++[_]).Nodup
    rw[Aa4];exact⟨B.nd,by simp,λy hy z N e=>m.1 (by rw[Ad8.mp N]at e;rw[<- e];exact hy)⟩
   .rcases Aa0.mp hl with hl | hl
    .exact B.rc l hl
    .exact⟨x.2,x.1,G.sym J,Ad8.mp hl,.cross R J U⟩
   .show s.row++_=((s.rch++[_]).map wys).flatten
    rw[B.row];simp
   .show s.k+1<=(s.row++_).length
    rw[Ab7];lia
   .show lnd r ((s.row++_).getD i (0,0)).2 ((s.row++_).getD i (0,0)).1∈s.rch++[_]
    have hi:i<s.k+1:=hi
    rw[bN6 (by lia)]
    have w:¬shP sh ((s.row++_).getD i (0,0)).1 ((s.row++_).getD i (0,0)).2:=w
    rw[bN6 (by lia)]at w
    rcases Cz i s.k with z | z
    .exact Al _ (B.cl i z w)
    .obtain rfl:i=s.k:=by lia
     rw[X];simp
   .rcases Aa0.mp hy with hy | hy
    .exact B.tc y hy
    .rw[Ad8.mp hy];exact J
  .rw[Ac m];refine⟨B.e,B.nd,B.rc,B.row,Y,λi hi w=>?_,B.tc⟩
   have hi:i<s.k+1:=hi
   rcases Cz i s.k with z | z
   .exact B.cl i z w
   .obtain rfl:i=s.k:=by lia
    show lnd r (s.row.getD s.k (0,0)).2 (s.row.getD s.k (0,0)).1∈s.rch
    have w:¬shP sh (s.row.getD s.k (0,0)).1 (s.row.getD s.k (0,0)).2:=w
    rw[X]at w ⊢;exact Classical.byContradiction λz=>m ⟨z,λh=>w (.inl h),λh=>w (.inr h)⟩
 .rw[Ac Y];exact B
theorem t6 (G:Good n r)(h:b∈r a):∀m,BI n r sh a b (run r sh (ini (lnd r a b)) m)
 | 0=>dI1 G h
 | m+1=>(t6 G h m).stp G
theorem cB6 (h:s.row.length<=s.k):stp r sh s=s:=by unfold stp;rw[Ac (by lia)]
theorem cH9 (G:Good n r)(h:b∈r a):∀m,(run r sh (ini (lnd r a b)) m).k=m\/((run r sh (ini (lnd r a b)) m).row.length=(run r sh (ini (lnd r a b)) m).k/\(run r sh (ini (lnd r a b)) m).k<=m)
 | 0=>.inl rfl
 | m+1=>by
  have B:=t6 G h (sh:=sh) m
  show(stp r sh (run r sh (ini (lnd r a b)) m)).k=m+1\/_
  rcases Cz (run r sh (ini (lnd r a b)) m).k (run r sh (ini (lnd r a b)) m).row.length with z | z
  .rcases cH9 G h m with e | e
   .left
    unfold stp;rw[Ae z];split <;> (show _+1=m+1;rw[e])
   .lia
  .right
   show(stp r sh (run r sh (ini (lnd r a b)) m)).row.length=(stp r sh (run r sh (ini (lnd r a b)) m)).k/\(stp r sh (run r sh (ini (lnd r a b)) m)).k<=m+1
   rw[cB6 z]
   have:=B.k
   rcases cH9 G h m with e | e <;> lia
theorem bP5 (h:(run r sh s m).row.length<=(run r sh s m).k):∀j,run r sh s (m+j)=run r sh s m
 | 0=>rfl
 | j+1=>by show stp r sh (run r sh s (m+j))=_;rw[bP5 h j,cB6 h]
def fin (r:Nat->List Nat)(sh:List (Nat×Nat))(a b:Nat):BS:=run r sh (ini (lnd r a b)) (100+(r a).length)
theorem dQ7 (G:Good n r)(h:b∈r a)(w:n<=10):(fin r sh a b).row.length=(fin r sh a b).k:=by
 have B:=t6 G h (sh:=sh) (100+(r a).length)
 have l:=B.row_len G
 have s:=B.sub G
 have:=B.k
 rcases cH9 G h (sh:=sh) (100+(r a).length) with e | e
 .unfold fin;lia
 .exact e.1
theorem fin_of (G:Good n r)(h:b∈r a)(w:n<=10)(e:m<=100)(he:(run r sh (ini (lnd r a b)) m).row.length<=(run r sh (ini (lnd r a b)) m).k):run r sh (ini (lnd r a b)) m=fin r sh a b:=by
 unfold fin;rw[show 100+(r a).length=m+(100+(r a).length-m) by lia,bP5 he]
theorem cV2 (G:Good n r)(h:b∈r a)(Y:n<=10):l∈(fin r sh a b).rch↔∃p q,q∈r p/\l=lnd r p q/\Rc r (shP sh) a b p q:=by
 have B:=t6 G h (sh:=sh) (100+(r a).length)
 have m:=dQ7 G h (sh:=sh) Y
 constructor
 .exact B.rc l
 .rintro⟨p,q,w,rfl,hr⟩;have z:∀{p q},Rc r (shP sh) a b p q->q∈r p/\lnd r p q∈(fin r sh a b).rch:=λhr=>by
   induction hr with
   | base=>exact⟨h,by show _∈(run r sh (ini (lnd r a b)) (100+(r a).length)).rch;rw[B.e];simp⟩
   | @rot q x y _ ha ih=>
    have e:=G.th_un ha
    refine⟨(C7 (G.tri _ _ _ ha)).1,?_⟩;rw[e,<- G.lnd_rot ih.1];exact ih.2
   | @cross p q _ w hs ih=>
    refine⟨G.sym w,?_⟩;have X:(p,q)∈(fin r sh a b).row:=by
     show(p,q)∈(run r sh (ini (lnd r a b)) (100+(r a).length)).row
     rw[B.row];exact List.mem_flatten.mpr ⟨_,Aa8.mpr ⟨_,ih.2,rfl⟩,(G.wys_lnd w).mpr (.inl rfl)⟩
    obtain⟨i,hi,e⟩:=List.getElem_of_mem X;have s:(fin r sh a b).row.getD i (0,0)=(p,q):=by rw[Ac0,Aa2 hi,e];rfl
    have:=B.cl i (by have:=m;unfold fin at this;unfold fin at hi;lia)
    unfold fin at s;rw[s]at this;exact this hs
  exact(z hr).2
theorem cY7 (G:Good n r)(h:b∈r a):(fin r sh a b).rch.length+4<=2*n:=(t6 G h (sh:=sh) (100+(r a).length)).sub G
theorem Good.inner_len (G:Good n r):((rds r n).filter λl=>decide (l≠[0,2,1])).length+5=2*n:=by
 have h:=G.rds_len
 have s:[0,2,1]∈rds r n:=G.rds_mem.mpr ⟨0,2,(C7 G.outs.1).1,by
  have:=G.th_un G.outs.1
  unfold lnd;rw[<- this];rfl⟩
 have w:=G.rds_nd
 generalize rds r n=L at h s w;have m:∀L:List (List Nat),L.Nodup->[0,2,1]∈L->(L.filter λl=>decide (l≠[0,2,1])).length+1=L.length:=λL=>by
  induction L with
  | nil=>intro _ h;cases h
  | cons x L X=>
   intro w s;rw[Aa5]at w;by_cases e:x=[0,2,1]
   .subst e;rw[List.filter_cons,Ac (by simp),List.filter_eq_self.mpr λy Y=>by simp;intro z;exact w.1 (z▸Y)];rfl
   .rw[List.filter_cons,Ae (by simpa using e),Ar,Ar,X w.2 (by rcases Aa1.mp s with z | z;exact absurd z.symm e;exact z)]
 have:=m L w s
 lia
end
end TT
namespace L2
open PySem PySem.Spec PyProof.Rows
open PySem.Builtin PySem.Builtin.Str
end L2
namespace LV
open PySem PySem.Spec PyProof.Rows L2
end LV
namespace L2
open PySem PySem.Spec PyProof.Rows
abbrev bmV:List Value:=[.type "ValueError",.type "Exception",.type "BaseException",.type "object"]
abbrev Cx.markd (X:Cx)(e:Value):Cx:={X with A:=X.A.mark (some e),calm:=false,xe:=λ_ _=>False}
abbrev cxU (P:Program)(w:World)(K:Frag)(mg:Str->Option Value)(base:Heap)(N:List Str)(qual:Str)(scope:Scope)(f:Addr)(cd:Value)(A:Around)(outer:List Env)(s:Shared)(H:Hp)(E:XK):Cx:=
 {bU8 CX0 P w K mg base N qual scope f cd A outer s H E with calm:=false,xe:=λ_ _=>False}
end L2
namespace LV
open PySem PySem.Spec PyProof.Rows L2
end LV
namespace L2
open PySem PySem.Spec PyProof.Rows
section
variable {X:Cx}{s:Shared}
theorem cU3 (N:A.handled=none)(m:s.heap.IsTuple l (intItems xs))(Y:0<xs.size)
  (h:∀v h' tk,(intItems xs)[argBest (λi j=>decide (numAt xs i<numAt xs j)) (xs.size-1)]? = some v->(∀b o,s.heap.get? b=some o->h'.get? b=some o)->Q v {s with heap:=h',toks:=tk}):wpAny (model P w) A (call (.builtin "min") [.ref l]) Q E s:=by
 have z:l<s.heap.objs.size:=by obtain⟨_,e,_⟩:=m;exact Ab3 e
 refine call_min_walk (wpAny_pyIter_tuple m ?_);refine⟨_,_,_,_,_,_,_,rfl,Walks.tuple (A:=A.in1) N _ l (Ab9 z) (intItems xs),⟨⟨_,Ac3 _ rfl,rfl,rfl⟩,aT7 (b:=l) m λo e=>Aa6 _ e⟩,λb U=>?_,by simpa[intItems]using Y,CmpOf.ints_lt (numAt xs) (λ_ _=>intItems_at),λv h' tk M R=>?_⟩
 .show b<(s.heap.push _).objs.size
  rw[Ce];simp only[Aa1,Ac2,or_false]at U;rcases U with rfl | rfl
  .exact Nat.lt_succ_self _
  .exact Ct z
 .exact h v h' tk (by simpa[intItems]using M) λb o e=>R b o (λD=>by
   have J:b=s.heap.objs.size:=by simpa using D
   exact absurd (J▸Ab3 e) (Ad9 _)) (Aa6 _ e)
theorem cF3 (K:Frag)(R:X.calm=true)(h:X.K=K:=by rfl):P6 X (.builtin "min") (λxs H Q=>∃(p:Addr) (l:List Int),xs=[.ref p]/\SqT K H p (l.map V.int)/\l≠[]/\∀M,M∈l->(∀a∈l,M<=a)->Q (.int M) H):=by
 subst h;intro aA s σ H xs us Q I r ⟨p,ns,e,B,z,q⟩;subst e;obtain⟨u,rfl,rx⟩:=T1 r;cases rx;obtain⟨its,rv,J,_⟩:=I.tuple B;have hi:=LV.S1 rv;obtain⟨xs,e⟩:=hi.allInts.items;have w:ns=xs.toList.map (·.1):=by rw[<- hi.numsOf,<- nums_intItems,<- e]
 have m:0<xs.size:=by
  have Y:=Du.mpr z;rw[w,Aa3,Am]at Y;exact Y
 rw[e]at J;refine cU3 (I.ok.hd R) J m λv h' tk P F=>?_
 obtain⟨t,rfl⟩:=intItems_at P;obtain⟨h1,N⟩:=argBest_lt (numAt xs) (xs.size-1);refine⟨.int _,H,I.kept F,⟨_,rfl⟩,q _ ?_ λa U=>?_⟩
 .rw[w,numAt_eq];exact getD_mem (by rw[Aa3,Am];lia)
 .rw[w]at U;obtain⟨j,D,rfl⟩:=mem_getD U;rw[Aa3,Am]at D;rw[<- numAt_eq];exact N j (by lia)
end
end L2
namespace LV
open PySem PySem.Spec PyProof.Rows L2
section
variable {K:Frag}{ρ:List Sl}{m:Bool}{t ta tb:TE}{d d':PyData}{ds es:List PyData}
theorem dO5 {t:TA}{l:List Int}{M:Int}(Y:A K false t ρ [tI l])(e:M∈l/\∀a∈l,M<=a):E K m (tCB (λxs H Q=>∃(p:Addr) (l:List Int),xs=[.ref p]/\SqT K H p (l.map V.int)/\l≠[]/\∀M,M∈l->(∀a∈l,M<=a)->Q (.int M) H) t) ρ (.int M):=cS0 Y λH vs Q r q=>by
 cases r with
 | cons a b=>
  cases b
  obtain⟨p,rfl,s⟩:=bW1 a;refine⟨p,l,rfl,s,List.ne_nil_of_mem e.1,λw h1 z=>?_⟩
  have:w=M:=Int.le_antisymm (z M e.1) (e.2 w h1)
  rw[this];exact q _ λ_=>.int _
end
end LV
namespace K34
open PySem L2 LV PyProof.Rows
theorem aC0:C1 ["ring"] ["ring"] (B2 P1):={}
theorem aY3:C1 ["ring"] ["ring"] (B2 i8):={}
theorem bO0:C1 ["turn", "place"] ["turn", "place"] (B2 aE1):={}
theorem K7:C1 ["turns", "p", "q", "corners", "here", "there", "behind"] ["turns", "p", "q"] (B2 l5):={}
theorem bQ5:C1 ["drawing", "p", "q"] ["drawing", "p", "q"] (B2 aN4):={}
theorem aP3:C1 ["drawing", "p", "q"] ["drawing", "p", "q"] (B2 W4):={}
theorem aD0:C1 ["ring", "first", "at"] ["ring", "first"] (B2 j4):={}
theorem bV6 (l:List Nat)(k:Nat):(nI l).drop k=nI (l.drop k):=by simp[nI]
theorem cV3 (l:List Nat)(k:Nat):(nI l).take k=nI (l.take k):=by simp[nI]
def dT8 (ds:List PyData)(d:PyData):Prop:=∃(l:List Nat) (x:Nat),x∈l/\l.length<=10000/\ds=[tN l,.int (x:Int)]/\d=tN (l.drop (l.idxOf x)++l.take (l.idxOf x))
def wys (x y z:Int):List (Int×Int):=[(z,x),(x,y),(y,z)]
def bZ7 (ds es:List PyData):Prop:=∃x y z:Int,ds=[tI [x,y,z]]/\es=(wys x y z).map pD
def fWy (x y z:Int):PyData->Option PyData
 | .int k=>some (pD (if k=0 then(z,x) else if k=1 then(x,y) else(y,z)))
 | _=>none
def dT3 (ds:List PyData)(d:PyData):Prop:=∃x y z:Nat,x≠y/\y≠z/\x≠z/\ds=[tN [x,y,z]]/\d=tN (TT.nrm x y z)
def dS5 (ds:List PyData)(d:PyData):Prop:=∃(l:List Nat) (x:Nat),x∈l/\l.length<=10000/\ds=[tN l,.int (x:Int)]/\d=.int (TT.prd l x:Nat)
def dR3 (ds:List PyData)(d:PyData):Prop:=∃(m:Nat) (dr tr:List (List Nat)) (p q:Nat),Dw m dr tr/\q∈TT.trn dr p/\ds=[.tuple (dr.map tN),.int (p:Int),.int (q:Int)]/\d=tN [p,q,TT.th (TT.trn dr) p q]
def dS0 (ds:List PyData)(d:PyData):Prop:=∃(m:Nat) (dr tr:List (List Nat)) (p q:Nat),Dw m dr tr/\q∈TT.trn dr p/\ds=[.tuple (dr.map tN),.int (p:Int),.int (q:Int)]/\d=.int (TT.th (TT.trn dr) p q:Nat)
def cQ0 (ds:List PyData)(d:PyData):Prop:=∃(m:Nat) (dr tr:List (List Nat)) (p q:Nat),Dw m dr tr/\q∈TT.trn dr p/\ds=[.tuple (dr.map tN),.int (p:Int),.int (q:Int)]/\d=tN (TT.lnd (TT.trn dr) p q)
theorem cI1 {l:List Nat}{x:Nat}(h:x∈l):atI (nI l) ((l.idxOf x:Nat)-1:Int)=some (.int (TT.prd l x:Nat)):=by
 have m:=Bg.mpr h
 unfold TT.prd;by_cases e:l.idxOf x=0
 .rw[Ae e,e];have w:l=l.dropLast++[TT.gi l (l.length-1)]:=by
   have h1:=List.dropLast_concat_getLast (l:=l) (by intro z;rw[z]at h;cases h)
   have s:TT.gi l (l.length-1)=l.getLast (by intro z;rw[z]at h;cases h):=by
    unfold TT.gi;rw[Ac0,Aa2 (by lia),List.getLast_eq_getElem];rfl
   rw[s];exact h1.symm
  generalize TT.gi l (l.length-1)=y at w;rw[w,aF2];exact aH5
 .rw[Ac e];refine W2 (l.idxOf x-1) (by lia) ?_
  unfold nI;rw[Aa9,TT.aO7 (by lia)];rfl
theorem Dw.good (h:Dw m dr tr):TT.Good (m+3) (TT.trn dr):=h.gd.good
theorem Dw.tle (h:Dw m dr tr)(p:Nat):(TT.trn dr p).length<=10:=by
 have:=TT.cI8 (h.good.nd p) (h.good.lt p)
 have:=h.m7
 lia
theorem Dw.lt (h:Dw m dr tr)(e:q∈TT.trn dr p):p<m+3:=by
 rcases Cz p (m+3) with z | z
 .exact z
 .rw[h.good.hi p z]at e;cases e
theorem Dw.at_ {m:Nat}{dr tr:List (List Nat)}(h:Dw m dr tr){p:Nat}(hp:p<m+3):atI (dr.map tN) (p:Int)=some (tN (TT.trn dr p)):=
 W2 p rfl (by rw[Aa9,cU2 (by rw[h.len];exact hp)];rfl)
section
variable {P:Program}{w:World}{K:Frag}{mg:Str->Option Value}{base:Heap}{a:Ad}
theorem aY4 (T:Tx K mg a):D2 P w K mg base CX0 1 a.aJ3 a.aG0 ["ring", "first"] (spV K dT8):=by
 refine T.aG8.F.ok aD0 (X3 λds d ⟨_,_,_,_,e,_⟩=>by rw[e];rfl) (λJ A Y s H vs Q E hr h=>?_)
 obtain⟨ds,S,d,M,r,⟨l,x,U,N,rfl,rfl⟩,q⟩:=h;refine⟨_,(A3 (psS 2 aD0 (K9 PySem.F.plainAttrs_tuple PySem.F.slot_tuple_index PySem.F.type_tuple_index (aL4 K) (pv 0) (A0 (pv 1) A2)))
   (A8 (D0 (B4 (cN6 K) (W8 (dR5 K) (pv 0) (S6 (pv 2)) aQ9) (W8 (dR5 K) (pv 0) aQ9 (S6 (pv 2))))))),K8 M r ?_ q⟩
 have X:l.idxOf x<l.length:=Ac4 U
 refine A9 (E7 (d:=.int (l.idxOf x:Nat)) ?_ ?_)
 .have h:=aS5 (K:=K) (m:=true) (ρ:=sl0 ["ring", "first", "at"].length [tI (l.map λ(x:Nat)=>(x:Int)),.int (x:Int)]) (ta:=D7 0) (tb:=D7 1) (k:=(x:Int)) v0 v1 (Aa8.mpr ⟨x,U,rfl⟩)
  rw[w4 x l]at h;rw[aU9];exact h
 refine L6 (dN6 (dC2 (ds:=nI l) (A6 rfl) (u4 (A6 rfl)) bI5 (J6 l)) (dC2 (ds:=nI l) (A6 rfl) bI5 (u4 (A6 rfl)) (J6 l)) (T3 _ _ (J6 l)) (T3 _ _ (J6 l)) ?_ ?_) ?_
 .rw[aW9 (by rw[E5];lia),bV6]
  intro z
  have:=congrArg List.length z
  rw[E5,Cg]at this;simp at this
  lia
 .rw[aW9 (by rw[E5];lia),bJ2 (by rw[E5];lia),Cg,Ad1,E5];unfold PySem.sizeLine;lia
 .show PyData.tuple _=tN _
  rw[aW9 (by rw[E5];lia),bJ2 (by rw[E5];lia),bV6,cV3,<- aF2]
  rfl
theorem bZ8 (T:Tx K mg a):D2 P w K mg base CX0 1 a.aI3 a.aJ0 ["ring"] (spL K bZ7):=by
 refine T.U5.F.ok aY3 (bS4 λds d ⟨_,_,_,e,_⟩=>by rw[e];rfl) (λX A Y s H vs Q E hr h=>?_)
 obtain⟨ds,S,N,J,r,⟨x,y,z,rfl,rfl⟩,q⟩:=h;refine⟨_,(A8 (D0 (M3 (T:=["k"]) (N':=["k", "ring"]) (is:=[0]) rfl (.of rfl rfl rfl (by exact⟨rfl,trivial⟩) rfl rfl rfl (by exact⟨⟨_,rfl,by first | exact .inl rfl | exact .inr rfl,by first | exact .inl rfl | exact .inr rfl⟩,trivial⟩)) (G9 rfl T.L4 (A0 (C0 (aZ3 K) (by rfl) T.P9 Bm (A0 (pv 0) A2)) A2)) (L5 (by decide)) λ_ _ _ _=>⟨(K4 (i:=0) (by decide +kernel:(["k", "ring"]:List Str).Nodup) rfl (Or.inl rfl)),N3,(D6 (A0 (B1 (ixK K) (pv 1) (B4 N4 (pv 0) A4) (λ_ _=>rfl)) (A0 (B1 (ixK K) (pv 1) (pv 0) (λ_ _=>rfl)) A2)))⟩))),aD7 J r ?_ q⟩
 have U:=M4 (K:=K) (m:=true) (ρ:=sl0 ["ring"].length [tI [x,y,z]]) (n:=1) (is:=[0]) (g:=G7 0) (tt:=aN0) (te:=bP4 (G1 (tOp (rIx K) (D7 1) (tOp (rI0 λi j=>.int (i-j)) (D7 0) (tC (.int 1)))) (G1 (tOp (rIx K) (D7 1) (D7 0)) V7))) (fWy x y z) (R9 (j:=3) (A1 (S8 (ds:=[.int x,.int y,.int z]) (A1 v0 A5)) A5) (by lia) (by lia)) (by decide) (λd M=>by
  obtain⟨i,hi⟩:=List.mem_iff_getElem?.mp M;obtain⟨rfl,hi⟩:=S3 hi;refine⟨_,B7,y0,?_⟩;have hi:i<3:=by lia
  rcases (show i=0\/i=1\/i=2 by lia) with rfl | rfl | rfl
  .exact F5 (A1 (D9 (i:=((0:Nat):Int)-1) (d':=.int z) (ds:=[.int x,.int y,.int z]) v1 (K5 (g:=λi j=>i-j) v0 A7) rfl rfl) (A1 (D9 (i:=0) (d':=.int x) (ds:=[.int x,.int y,.int z]) v1 v0 rfl rfl) A5))
  .exact F5 (A1 (D9 (i:=((1:Nat):Int)-1) (d':=.int x) (ds:=[.int x,.int y,.int z]) v1 (K5 (g:=λi j=>i-j) v0 A7) rfl rfl) (A1 (D9 (i:=1) (d':=.int y) (ds:=[.int x,.int y,.int z]) v1 v0 rfl rfl) A5))
  .exact F5 (A1 (D9 (i:=((2:Nat):Int)-1) (d':=.int y) (ds:=[.int x,.int y,.int z]) v1 (K5 (g:=λi j=>i-j) v0 A7) rfl rfl) (A1 (D9 (i:=2) (d':=.int z) (ds:=[.int x,.int y,.int z]) v1 v0 rfl rfl) A5)))
 exact aS9 U rfl
theorem cM8 (T:Tx K mg a):D2 P w K mg base CX0 2 a.V3 a.V6 ["ring"] (spV K dT3):=by
 have m:D2 P w K mg base CX0 1 _ _ _ _:=aY4 T
 refine T.V8.F.ok aC0 (X3 λds d ⟨_,_,_,_,_,_,e,_⟩=>by rw[e];rfl) (λcdv A U s H vs Q E hr h=>?_)
 obtain⟨ds,S,d,hS,r,⟨x,y,z,h1,R,D,rfl,rfl⟩,q⟩:=h;refine⟨_,(A8 (D0 (pcl m hr T.aG8 (A0 (pv 0) (A0 (C0 (cF3 K rfl) (by rfl) T.bY1 boot_min (A0 (pv 0) A2)) A2))))),K8 hS r ?_ q⟩
 obtain⟨M,B,X,hn⟩:∃M:Nat,M∈[x,y,z]/\(∀c∈[(x:Int),(y:Int),(z:Int)],(M:Int)<=c)/\[x,y,z].drop ([x,y,z].idxOf M)++[x,y,z].take ([x,y,z].idxOf M)=TT.nrm x y z:=by
  unfold TT.nrm;by_cases J:x<y/\x<z
  .rw[Ae J];exact⟨x,by simp,λc Y=>by simp at Y;lia,by simp⟩
  .rw[Ac J];by_cases N:y<z/\y<x
   .rw[Ae N];exact⟨y,by simp,λc Y=>by simp at Y;lia,by rw[show [x,y,z].idxOf y=1 from TT.K6 (p:=[x]) (s:=[z]) (by simp[h1,R,D]) rfl];rfl⟩
   .rw[Ac N];exact⟨z,by simp,λc Y=>by simp at Y;lia,by rw[show [x,y,z].idxOf z=2 from TT.K6 (p:=[x,y]) (s:=[]) (by simp[h1,R,D]) rfl];rfl⟩
 refine L6 (C8 (A1 v0 (A1 (dO5 (l:=[(x:Int),(y:Int),(z:Int)]) (M:=(M:Int)) (A1 v0 A5) ⟨by simp at B ⊢;lia,X⟩) A5)) ⟨[x,y,z],M,B,by simp,rfl,rfl⟩) ?_
 rw[hn]
theorem bN7 (T:Tx K mg a):D2 P w K mg base CX0 1 a.aW7 a.aV1 ["turn", "place"] (spV K dS5):=by
 refine T.aE2.F.ok bO0 (X3 λds d ⟨_,_,_,_,e,_⟩=>by rw[e];rfl) (λX A z s H vs Q E hr h=>?_)
 obtain⟨ds,S,d,U,r,⟨l,x,Y,J,rfl,rfl⟩,q⟩:=h;refine⟨_,(A8 (D0 (B1 (ixK K) (pv 0) (B4 N4 (K9 PySem.F.plainAttrs_tuple PySem.F.slot_tuple_index PySem.F.type_tuple_index (aL4 K) (pv 0) (A0 (pv 1) A2)) A4) (λ_ _=>rfl)))),K8 U r ?_ q⟩
 have h:=aS5 (K:=K) (m:=false) (ρ:=sl0 ["turn", "place"].length [tI (l.map λ(x:Nat)=>(x:Int)),.int (x:Int)]) (ta:=D7 0) (tb:=D7 1) (k:=(x:Int)) v0 v1 (Aa8.mpr ⟨x,Y,rfl⟩)
 rw[w4 x l,<- aU9]at h;exact L6 (D9 (ds:=nI l) v0 (K5 (g:=λi j=>i-j) h A7) rfl (cI1 Y)) rfl
theorem cU9 (T:Tx K mg a):D2 P w K mg base CX0 2 a.aK0 a.aI2 ["turns", "p", "q"] (spV K dR3):=by
 have X:D2 P w K mg base CX0 1 _ _ _ _:=bN7 T
 refine T.aK6.F.ok K7 (X3 λds d ⟨_,_,_,_,_,_,_,e,_⟩=>by rw[e];rfl) (λB A N s H vs Q E hr h=>?_)
 obtain⟨ds,S,d,hS,r,⟨m,Y,tr,p,z,U,J,rfl,rfl⟩,q⟩:=h;refine⟨_,(A3 (psS 3 K7 (C4 (A0 (pv 1) A2)))
   (A3 (psS 4 K7 (pv 1))
   (A3 (psS 5 K7 (pv 2))
   (A8 (e5 An (Z4 s9) (A3 (psS 6 K7 (pcl X hr T.aE2 (A0 (B1 (ixK K) (pv 0) (pv 5) (λ_ _=>rfl)) (A0 (pv 4) A2))))
   (A3 (O1 (PW.pt (aF3 (C3 bB5 (pv 5) (pv 1) (F8 _)) (aR4 (C3 bB5 (pv 6) (pv 2) (F8 _))))) (A8 (D0 (E3 (bR5 K) (by rfl) T.M1 boot_tuple (A0 (pv 3) A2)))) F3)
   (A3 (F0 (K9 Ab1 Ah Ag D5 (pv 3) (A0 (pv 5) A2)))
   (A3 (psS 4 K7 (pv 5))
   (A8 (psS 5 K7 (pv 6)))))))))))),K8 hS r ?_ q⟩
 have G:=U.good
 obtain⟨n1,n2,n3⟩:=G.th_ne J;obtain⟨m1,R⟩:=G.th_mem J;have r1:=G.th_rot J;have r2:=G.th_rot2 J;have D:=G.sym J;have s2:=G.sym m1;have s3:=G.sym R;have lp:=U.lt J;have lq:=U.lt D;have lt:=U.lt R;generalize ht:TT.th (TT.trn Y) p z=t at *;refine A9 (F9 (E9 (A1 (A6 rfl) A5)) ?_ (show 3<7 by decide))
 refine A9 (E7 v1 ?_);refine A9 (E7 v2 ?_);refine aB0 (λk ρ=>∃M,M.nb=true/\((k=3/\ρ=[.val (.tuple (Y.map tN)),.val (.int (p:Int)),.val (.int (z:Int)),.own (nI [p]),.val (.int (p:Int)),.val (.int (z:Int)),M])\/(k=2/\ρ=[.val (.tuple (Y.map tN)),.val (.int (p:Int)),.val (.int (z:Int)),.own (nI [p,z]),.val (.int (z:Int)),.val (.int (t:Int)),M])\/(k=1/\ρ=[.val (.tuple (Y.map tN)),.val (.int (p:Int)),.val (.int (z:Int)),.own (nI [p,z,t]),.val (.int (t:Int)),.val (.int (p:Int)),M]))) ⟨3,.no,rfl,.inl ⟨rfl,rfl⟩⟩ ?_
 rintro k ρ' ⟨M,b6,⟨rfl,rfl⟩ | ⟨rfl,rfl⟩ | ⟨rfl,rfl⟩⟩
 .refine⟨true,t_b bP3,?_⟩;rw[Ae rfl];refine A9 (E7 (d:=.int (t:Int)) (C8 (A1 (D9 (ds:=Y.map tN) v0 v5 rfl (U.at_ lq)) (A1 v4 A5)) ⟨TT.trn Y z,p,D,by have:=U.tle z;lia,rfl,by rw[show TT.prd (TT.trn Y z) p=t from ht]⟩) ?_)
  show W K _ [.val (.tuple (Y.map tN)),.val (.int (p:Int)),.val (.int (z:Int)),.own (nI [p]),.val (.int (p:Int)),.val (.int (z:Int)),.val (.int (t:Int))] _
  refine A9 (X4 (aK7 (C5 (aD5 (i:=(z:Int)) (j:=(p:Int)) v5 v1)) λh=>(C5 (aD5 (i:=(t:Int)) (j:=(z:Int)) v6 v2))) (λh=>?_) (λh=>J5 ?_))
  .exfalso;simp at h;lia
  refine A9 (K2 (d:=.int (z:Int)) rfl v5 (by simp[nI];unfold PySem.sizeLine;lia) ?_)
  show W K _ [.val (.tuple (Y.map tN)),.val (.int (p:Int)),.val (.int (z:Int)),.own (nI ([p]++[z])),.val (.int (p:Int)),.val (.int (z:Int)),.val (.int (t:Int))] _
  refine A9 (E7 v5 ?_);refine E7 v6 ⟨2,by lia,.val (.int (t:Int)),rfl,?_⟩
  exact .inr (.inl ⟨rfl,rfl⟩)
 .refine⟨true,t_b bP3,?_⟩;rw[Ae rfl];refine A9 (E7 (d:=.int (p:Int)) (C8 (A1 (D9 (ds:=Y.map tN) v0 v5 rfl (U.at_ lt)) (A1 v4 A5)) ⟨TT.trn Y t,z,s2,by have:=U.tle t;lia,rfl,by rw[show TT.prd (TT.trn Y t) z=p from r1]⟩) ?_)
  show W K _ [.val (.tuple (Y.map tN)),.val (.int (p:Int)),.val (.int (z:Int)),.own (nI [p,z]),.val (.int (z:Int)),.val (.int (t:Int)),.val (.int (p:Int))] _
  refine A9 (X4 (aK7 (C5 (aD5 (i:=(t:Int)) (j:=(p:Int)) v5 v1)) λh=>(C5 (aD5 (i:=(p:Int)) (j:=(z:Int)) v6 v2))) (λh=>?_) (λh=>J5 ?_))
  .exfalso;simp at h;lia
  refine A9 (K2 (d:=.int (t:Int)) rfl v5 (by simp[nI];unfold PySem.sizeLine;lia) ?_)
  show W K _ [.val (.tuple (Y.map tN)),.val (.int (p:Int)),.val (.int (z:Int)),.own (nI ([p,z]++[t])),.val (.int (z:Int)),.val (.int (t:Int)),.val (.int (p:Int))] _
  refine A9 (E7 v5 ?_);refine E7 v6 ⟨1,by lia,.val (.int (p:Int)),rfl,?_⟩
  exact .inr (.inr ⟨rfl,rfl⟩)
 .refine⟨true,t_b bP3,?_⟩;rw[Ae rfl];refine A9 (E7 (d:=.int (z:Int)) (C8 (A1 (D9 (ds:=Y.map tN) v0 v5 rfl (U.at_ lp)) (A1 v4 A5)) ⟨TT.trn Y p,t,s3,by have:=U.tle p;lia,rfl,by rw[show TT.prd (TT.trn Y p) t=z from r2]⟩) ?_)
  show W K _ [.val (.tuple (Y.map tN)),.val (.int (p:Int)),.val (.int (z:Int)),.own (nI [p,z,t]),.val (.int (t:Int)),.val (.int (p:Int)),.val (.int (z:Int))] _
  refine A9 (X4 (aK7 (C5 (aD5 (i:=(p:Int)) (j:=(p:Int)) v5 v1)) λh=>(C5 (aD5 (i:=(z:Int)) (j:=(z:Int)) v6 v2))) (λh=>L6 (Q0 (ds:=nI [p,z,t]) (A1 (K0 rfl) A5) (J6 _)) rfl) (λh=>?_))
  exfalso;simp at h
theorem dB9 (T:Tx K mg a):D2 P w K mg base CX0 2 a.bB3 a.bB6 ["drawing", "p", "q"] (spV K dS0):=by
 have Y:D2 P w K mg base CX0 1 _ _ _ _:=cZ2 T
 have z:D2 P w K mg base CX0 1 _ _ _ _:=bN7 T
 refine T.bA9.F.ok bQ5 (X3 λds d ⟨_,_,_,_,_,_,_,e,_⟩=>by rw[e];rfl) (λB A R s H vs Q E hr h=>?_)
 obtain⟨ds,S,d,hS,r,⟨m,J,tr,p,U,X,M,rfl,rfl⟩,q⟩:=h;refine⟨_,(A3 (O1 (aF0 (Z4 (pcl Y hr T.cU1 (A0 (pv 0) (A0 (pv 1) (A0 (pv 2) A2)))))) cD8 F3)
   (A8 (D0 (pcl z hr T.aE2 (A0 (B1 (ixK K) (pv 0) (pv 2) (λ_ _=>rfl)) (A0 (pv 1) A2)))))),K8 hS r ?_ q⟩
 have G:=X.good
 have D:=G.sym M
 have lp:=X.lt M
 have lq:=X.lt D
 have N:td J (p:Int) (U:Int)=true:=by
  unfold td
  have:=X.len
  simp only[Ba,Ay,Ac8];exact⟨⟨by lia,by lia⟩,Aa8.mpr ⟨U,M,rfl⟩⟩
 refine A9 (X4 (b := !true) (aS2 (t_b (C8 (d:=.bool true) (A1 v0 (A1 v1 (A1 v2 A5))) ⟨J,p,U,rfl,by rw[N]⟩))) (λh=>by cases h) (λh=>J5 ?_))
 exact L6 (C8 (A1 (D9 (ds:=J.map tN) v0 v2 rfl (X.at_ lq)) (A1 v1 A5)) ⟨TT.trn J U,p,D,by have:=X.tle U;lia,rfl,rfl⟩) rfl
theorem dE2 (T:Tx K mg a):D2 P w K mg base CX0 3 a.t5 a.y6 ["drawing", "p", "q"] (spV K cQ0):=by
 have Y:D2 P w K mg base CX0 2 _ _ _ _:=dB9 T
 have z:D2 P w K mg base CX0 2 _ _ _ _:=cM8 T
 refine T.Q8.F.ok aP3 (X3 λds d ⟨_,_,_,_,_,_,_,e,_⟩=>by rw[e];rfl) (λR A J s H vs Q E hr h=>?_)
 obtain⟨ds,S,d,D,r,⟨m,U,tr,p,X,M,N,rfl,rfl⟩,q⟩:=h;refine⟨_,(A8 (D0 (pcl z hr T.V8 (A0 (D6 (A0 (pv 1) (A0 (pv 2) (A0 (pcl Y hr T.bA9 (A0 (pv 0) (A0 (pv 1) (A0 (pv 2) A2)))) A2)))) A2)))),K8 D r ?_ q⟩
 obtain⟨B,n2,n3⟩:=M.good.th_ne N;exact L6 (C8 (A1 (F5 (ds:=[.int (p:Int),.int (X:Int),.int (TT.th (TT.trn U) p X:Int)]) (A1 v1 (A1 v2 (A1 (C8 (A1 v0 (A1 v1 (A1 v2 A5))) ⟨m,U,tr,p,X,M,N,rfl,rfl⟩) A5)))) A5) ⟨p,X,TT.th (TT.trn U) p X,B,n2,n3,rfl,rfl⟩) rfl
end
theorem G8:C1 ["turns", "seen", "rounds", "p", "turn", "q", "corners", "way"] ["turns"] (B2 m9):={}
def cI (x:Nat×Nat):Int×Int:=((x.1:Int),(x.2:Int))
def aY7 (kvs:List (List Int×PyData))(ws:List (Nat×Nat)):List (List Int×PyData):=ws.foldl (λa w=>T0 a [(w.1:Int),(w.2:Int)] (.bool true)) kvs
theorem bL3:∀(ws:List (Nat×Nat)) (kvs:List (List Int×PyData)) (x y:Nat),(aY7 kvs ws).any (λz=>decide (z.1=[(x:Int),(y:Int)]))=(kvs.any (λz=>decide (z.1=[(x:Int),(y:Int)]))||decide ((x,y)∈ws))
 | [],kvs,x,y=>by simp[aY7]
 | v::ws,kvs,x,y=>by
  have ih:=bL3 ws (T0 kvs [(v.1:Int),(v.2:Int)] (.bool true)) x y
  show(aY7 (T0 kvs [(v.1:Int),(v.2:Int)] (.bool true)) ws).any _=_
  rw[ih,cL2,Bool.or_assoc]
  congr 1
  rw[<- Bool.decide_or];refine Dk.mpr ?_;rw[Aa1];refine or_congr ⟨λh=>?_,λh=>?_⟩ Iff.rfl
  .simp only[Bd,and_true]at h;exact Prod.ext (by show x=v.1;lia) (by show y=v.2;lia)
  .rw[<- h]
theorem aU0:∀(ws:List (Nat×Nat)) (kvs:List (List Int×PyData)),(aY7 kvs ws).length<=kvs.length+ws.length
 | [],kvs=>by simp[aY7]
 | v::ws,kvs=>by
  have ih:=aU0 ws (T0 kvs [(v.1:Int),(v.2:Int)] (.bool true))
  have:=bN4 kvs [(v.1:Int),(v.2:Int)] (.bool true)
  show(aY7 (T0 kvs [(v.1:Int),(v.2:Int)] (.bool true)) ws).length<=_
  rw[Ar];lia
def pre (r:Nat->List Nat)(i j:Nat):List (Nat×Nat):=TT.gps r i++((r i).take j).map λq=>(i,q)
theorem cO1 (r:Nat->List Nat)(i:Nat):pre r i 0=TT.gps r i:=by simp[pre]
theorem dS7 (r:Nat->List Nat)(h:(r i)[j]? = some q):pre r i (j+1)=pre r i j++[(i,q)]:=by
 unfold pre;rw[Dm,h];simp
theorem bJ1 (r:Nat->List Nat)(i:Nat):pre r i (r i).length=TT.gps r (i+1):=by
 unfold pre TT.gps;rw[Cf,Cn];simp
theorem mem_gps:x∈TT.gps r n↔x.1<n/\x.2∈r x.1:=by
 unfold TT.gps;simp only[List.mem_flatten,Aa8,Ab5];constructor
 .rintro⟨l,⟨p,hp,rfl⟩,w⟩;obtain⟨q,e,rfl⟩:=Aa8.mp w;exact⟨hp,e⟩
 .intro h;exact⟨_,⟨x.1,h.1,rfl⟩,Aa8.mpr ⟨x.2,h.2,rfl⟩⟩
def T5 (r:Nat->List Nat)(x:Nat×Nat):List Nat:=[x.1,x.2,TT.th r x.1 x.2]
def KS (r:Nat->List Nat)(kvs:List (List Int×PyData))(ps:List (Nat×Nat)):Prop:=
 ∀x y:Nat,y∈r x->(kvs.any (λz=>decide (z.1=[(x:Int),(y:Int)]))=true↔∃z∈ps,TT.low r z=true/\TT.lnd r x y=T5 r z)
theorem aP8 (h:TT.low r z=true):TT.lnd r z.1 z.2=T5 r z:=by
 unfold TT.low at h;simp only[Ba,Ay]at h;unfold TT.lnd TT.nrm T5;rw[Ae h]
theorem cR6 (h:T5 r x=T5 r y):x=y:=by
 unfold T5 at h;simp only[Bd]at h;exact Prod.ext h.1 h.2.1
theorem dN8 {n:Nat}{r:Nat->List Nat}(G:TT.Good n r){kvs:List (List Int×PyData)}{i j q:Nat}(h:(r i)[j]? = some q)(ks:KS r kvs (pre r i j)):kvs.any (λz=>decide (z.1=[(i:Int),(q:Int)])) = !TT.low r (i,q):=by
 have s:q∈r i:=Aw h
 have k:=ks i q s
 cases m:TT.low r (i,q) with
 | true=>
  rw[Bool.not_true,Bool.eq_false_iff];intro z;obtain⟨z,hz,h1,w⟩:=k.mp z
  have:z=(i,q):=(cR6 ((aP8 m).symm.trans w)).symm
  subst this;unfold pre at hz;rcases Aa0.mp hz with hz | hz
  .have:=(mem_gps.mp hz).1;simp at this
  .obtain⟨F,X,e⟩:=Aa8.mp hz;have N:F=q:=congrArg Prod.snd e;subst N;obtain⟨U,Y,e'⟩:=List.getElem_of_mem X;have B:U<j:=by simp at Y;lia
   have R:j<(r i).length:=(Ab0.mp h).1
   rw[List.getElem_take]at e'
   have:=TT.bQ9 (G.nd i) (j:=U) (k:=j) (by lia) R (by
    unfold TT.gi;rw[Ac0,Ac0,h,Aa2 (by lia),e'])
   lia
 | false=>
  rw[Bool.not_false];refine k.mpr ?_;obtain⟨a,b,c⟩:=G.th_ne s;obtain⟨Q,D⟩:=G.th_mem s;have J:=G.th_rot s;have M:=G.th_rot2 s;have m:¬(i<q/\i<TT.th r i q):=λz=>by
   have:TT.low r (i,q)=true:=by simp[TT.low,z]
   rw[m]at this;cases this
  unfold TT.lnd TT.nrm T5;rw[Ac m];by_cases w:q<TT.th r i q/\q<i
  .rw[Ae w];exact⟨(q,TT.th r i q),Al _ (mem_gps.mpr ⟨w.2,Q⟩),by simp[TT.low,J,w],by simp[J]⟩
  .rw[Ac w];exact⟨(TT.th r i q,i),Al _ (mem_gps.mpr ⟨by show TT.th r i q<i;lia,D⟩),by simp[TT.low,M];lia,by simp[M]⟩
theorem dH1 (ks:KS r kvs ps)(h:TT.low r x=false):KS r kvs (ps++[x]):=λa b w=>by
 rw[ks a b w];constructor
 .rintro⟨z,hz,k⟩;exact⟨z,Al _ hz,k⟩
 .rintro⟨z,hz,h1,e⟩;rcases Aa0.mp hz with hz | hz
  .exact⟨z,hz,h1,e⟩
  .rw[Ad8.mp hz,h]at h1;cases h1
theorem dG3 (G:TT.Good n r)(m:x.2∈r x.1)(ks:KS r kvs ps)(h:TT.low r x=true):KS r (aY7 kvs (TT.wys (T5 r x))) (ps++[x]):=λa b Y=>by
 rw[bL3,Ee,ks a b Y,decide_eq_true_iff,<- aP8 h];have w:(a,b)∈TT.wys (TT.lnd r x.1 x.2)↔TT.lnd r a b=TT.lnd r x.1 x.2:=⟨λz=>(G.wys_back m z).2,λz=>by
  rw[G.wys_lnd m];rcases G.lnd_eq m Y z.symm with⟨h1,s⟩ | ⟨h1,s⟩ | ⟨h1,s⟩
  .exact .inl (by rw[h1,s])
  .exact .inr (.inl (by rw[h1,s]))
  .exact .inr (.inr (by rw[h1,s]))⟩
 rw[w];constructor
 .rintro (⟨z,hz,k⟩ | e)
  .exact⟨z,Al _ hz,k⟩
  .exact⟨x,by simp,h,e.trans (aP8 h)⟩
 .rintro⟨z,hz,h1,s⟩;rcases Aa0.mp hz with hz | hz
  .exact .inl ⟨z,hz,h1,s⟩
  .rw[Ad8.mp hz]at s;exact .inr (s.trans (aP8 h).symm)
def dF1 (ds es:List PyData):Prop:=∃(m:Nat) (dr tr:List (List Nat)),Dw m dr tr/\ds=[.tuple (dr.map tN)]/\es=(TT.rds (TT.trn dr) (m+3)).map tN
theorem Dw.plen (h:Dw m dr tr):∀i,(TT.gps (TT.trn dr) i).length<=10*i
 | 0=>by simp[TT.gps]
 | i+1=>by
  have:=h.plen i
  have:=h.tle i
  rw[<- bJ1];unfold pre;rw[Ab7,Aa3,Cf];lia
section
variable {P:Program}{w:World}{K:Frag}{mg:Str->Option Value}{base:Heap}{a:Ad}
theorem cE2 (T:Tx K mg a):D2 P w K mg base CX0 3 a.aJ9 a.aH9 ["turns"] (spL K dF1):=by
 have U:D2 P w K mg base CX0 2 _ _ _ _:=cU9 T
 have J:D2 P w K mg base CX0 1 _ _ _ _:=bZ8 T
 refine T.aH1.F.ok G8 (bS4 λds d ⟨_,_,_,_,e,_⟩=>by rw[e];rfl) (λcdv A outer s H vs Q E hr h=>?_)
 obtain⟨ds,S,es,hS,r,⟨m,z,tr,dw,rfl,rfl⟩,q⟩:=h;refine⟨_,(A3 (psS 1 G8 bD4)
   (A3 (psS 2 G8 (C4 A2))
   (A3 (G3 An rfl (bO5 false K rfl T.X6 (A0 (pv 0) A2)) (Y5 (n:=2) rfl (E4 (pgN 3 G8) (E4 (pgN 4 G8) S4))) (A8 (G3 An rfl (Y6 (pv 4)) (pgN 5 G8) (A8 (O1 (C3 (aO1 K hr) (D6 (A0 (pv 3) (A0 (pv 5) A2))) (pv 1) rfl) (A3 (psS 6 G8 (pcl U hr T.aK6 (A0 (pv 0) (A0 (pv 3) (A0 (pv 5) A2)))))
   (A3 (G3 An rfl (S7 (pcl J hr T.U5 (A0 (pv 6) A2))) (pgN 7 G8) (A8 (Z7 K hr (pv 1) (pv 7) s9)))
   (A8 (F0 (K9 Ab1 Ah Ag D5 (pv 2) (A0 (pv 6) A2)))))) F3)))))
   (A8 (D0 (pv 2)))))),aD7 hS r ?_ q⟩
 have G:=dw.good
 have m7:=dw.m7
 have hdl:=dw.len
 refine A9 (aE8 aX1 ?_ (show 1<8 by decide))
 refine A9 (F9 (E9 A5) ?_ (show 2<8 by decide))
 refine A9 (N0 (bV0 false (ds:=z.map tN) (A1 (A6 rfl) A5)) (λi ρ=>∃kvs x3 x4 D N X,(x3.nb=true/\x4.nb=true/\D.nb=true/\N.nb=true/\X.nb=true)/\KS (TT.trn z) kvs (TT.gps (TT.trn z) i)/\kvs.length<=3*(TT.gps (TT.trn z) i).length/\ρ=[.val (.tuple (z.map tN)),.tr (.dic kvs),.own (((((TT.gps (TT.trn z) i).filter (TT.low (TT.trn z))).map (T5 (TT.trn z)))).map tN),x3,x4,D,N,X]) ⟨[],.no,.no,.no,.no,.no,⟨rfl,rfl,rfl,rfl,rfl⟩,λx y _=>by simp[TT.gps],by simp,rfl⟩ ?_ ?_)
 .rintro i d _ hd ⟨kvs,x3,x4,D,N,X,⟨b3,b4,b5,b6,b7⟩,M,B,rfl⟩;obtain⟨y,hy,rfl⟩:=bI9 hd;rw[Aa9]at hy;obtain⟨row,h1,rfl⟩:=Ap.mp hy;have hi:i<z.length:=(Ab0.mp h1).1;have er:TT.trn z i=row:=by unfold TT.trn;rw[h1];rfl
  have hp:=dw.plen i
  refine⟨_,aD1 (F6 B7 (F6 B7 Y4)),?_⟩;rw[<- er];show W K _ [.val (.tuple (z.map tN)),.tr (.dic kvs),.own (((((TT.gps (TT.trn z) i).filter (TT.low (TT.trn z))).map (T5 (TT.trn z)))).map tN),.val (.int (i:Int)),.val (tN (TT.trn z i)),D,N,X] _;refine N0 (aC7 (ds:=nI (TT.trn z i)) v4) (λj ρ=>∃kvs D N X,(D.nb=true/\N.nb=true/\X.nb=true)/\KS (TT.trn z) kvs (pre (TT.trn z) i j)/\kvs.length<=3*(pre (TT.trn z) i j).length/\ρ=[.val (.tuple (z.map tN)),.tr (.dic kvs),.own (((((pre (TT.trn z) i j).filter (TT.low (TT.trn z))).map (T5 (TT.trn z)))).map tN),.val (.int (i:Int)),.val (tN (TT.trn z i)),D,N,X]) ⟨kvs,D,N,X,⟨b5,b6,b7⟩,by rw[cO1];exact M,by rw[cO1];exact B,by rw[cO1]⟩ ?_ ?_
  .rintro j d _ hd ⟨kvs,D,N,X,⟨b5,b6,b7⟩,M,B,rfl⟩;unfold nI at hd;rw[Aa9]at hd;obtain⟨Y,hq',rfl⟩:=Ap.mp hd;have hq:Y∈TT.trn z i:=Aw hq';have hj:j<(TT.trn z i).length:=(Ab0.mp hq').1;have htl:=dw.tle i;have lowq:=dN8 G hq' M;have R:=dS7 (TT.trn z) hq';have hpl:(pre (TT.trn z) i j).length<=110:=by
    unfold pre;rw[Ab7,Aa3,Ad1];lia
   refine⟨_,B7,?_⟩;generalize hF:((pre (TT.trn z) i j).filter (TT.low (TT.trn z))).map (T5 (TT.trn z))=F;have hFl:F.length<=110:=by rw[<- hF,Aa3];exact Bi (List.length_filter_le _ _) hpl
   show W K _ [.val (.tuple (z.map tN)),.tr (.dic kvs),.own (F.map tN),.val (.int (i:Int)),.val (tN (TT.trn z i)),.val (.int (Y:Int)),N,X] _
   have tst:=cC0 (K:=K) (m:=false) (neg:=true) (i:=1) (kvs:=kvs) (ks:=[(i:Int),(Y:Int)]) (ρ:=[.val (.tuple (z.map tN)),.tr (.dic kvs),.own (F.map tN),.val (.int (i:Int)),.val (tN (TT.trn z i)),.val (.int (Y:Int)),N,X]) (F5 (A1 v3 (A1 v5 A5))) rfl
   rw[lowq]at tst;have e:(true ^^ !TT.low (TT.trn z) (i,Y))=TT.low (TT.trn z) (i,Y):=by cases TT.low (TT.trn z) (i,Y) <;> rfl
   rw[e]at tst;refine X4 (C5 tst) (λhl=>?_) (λhl=>J5 ⟨kvs,.val (.int (Y:Int)),N,X,⟨rfl,b6,b7⟩,by rw[R];exact dH1 M hl,by rw[R,Ab7];lia,by rw[R,Dv];simp[hl,hF]⟩)
   refine A9 (E7 (d:=tN (T5 (TT.trn z) (i,Y))) (C8 (A1 v0 (A1 v3 (A1 v5 A5))) ⟨m,z,tr,i,Y,dw,hq,rfl,rfl⟩) ?_);show W K _ [.val (.tuple (z.map tN)),.tr (.dic kvs),.own (F.map tN),.val (.int (i:Int)),.val (tN (TT.trn z i)),.val (.int (Y:Int)),.val (tN (T5 (TT.trn z) (i,Y))),X] _;have hw:(wys (i:Int) (Y:Int) (TT.th (TT.trn z) i Y:Int)).map pD=(TT.wys (T5 (TT.trn z) (i,Y))).map λx=>pD (cI x):=rfl
   refine A9 (N0 (Z1 (ds:=(TT.wys (T5 (TT.trn z) (i,Y))).map λx=>pD (cI x)) (EF.e' (S5 (A1 v6 A5) ⟨(i:Int),(Y:Int),(TT.th (TT.trn z) i Y:Int),rfl,hw.symm⟩))) (λl ρ=>∃X,X.nb=true/\ρ=[.val (.tuple (z.map tN)),.tr (.dic (aY7 kvs ((TT.wys (T5 (TT.trn z) (i,Y))).take l))),.own (F.map tN),.val (.int (i:Int)),.val (tN (TT.trn z i)),.val (.int (Y:Int)),.val (tN (T5 (TT.trn z) (i,Y))),X]) ⟨X,b7,rfl⟩ ?_ ?_)
   .rintro l d _ hd ⟨X,b7,rfl⟩;rw[Aa9]at hd;obtain⟨v,hv,rfl⟩:=Ap.mp hd;have hvl:l<3:=(Ab0.mp hv).1;refine⟨_,B7,?_⟩;have hkp:=aU0 ((TT.wys (T5 (TT.trn z) (i,Y))).take l) kvs;rw[Ad1]at hkp;refine aA1 (ks:=[(v.1:Int),(v.2:Int)]) bP3 (i:=1) rfl (LV.E.imm (m:=false) v7) (by unfold PySem.sizeLine;lia) ⟨.val (pD (cI v)),rfl,?_⟩
    rw[Dm,hv];unfold aY7;rw[List.foldl_append];rfl
   .rintro _ ⟨X,b7,rfl⟩;have hkp:=aU0 (TT.wys (T5 (TT.trn z) (i,Y))) kvs;have e3:(TT.wys (T5 (TT.trn z) (i,Y))).length=3:=rfl;rw[Aa3,Cf];refine K2 (d:=tN (T5 (TT.trn z) (i,Y))) rfl v6 (by rw[Aa3];unfold PySem.sizeLine;lia) ⟨aY7 kvs (TT.wys (T5 (TT.trn z) (i,Y))),.val (.int (Y:Int)),.val (tN (T5 (TT.trn z) (i,Y))),X,⟨rfl,rfl,b7⟩,by rw[R];exact dG3 G hq M hl,by rw[R,Ab7,List.length_singleton];lia,?_⟩ (by cases X <;> first | rfl | cases b7)
    rw[R,Dv,Ad2,Ad2,hF]
    simp[hl]
  .rintro _ ⟨kvs,D,N,X,⟨b5,b6,b7⟩,M,B,rfl⟩;rw[E5]at *;rw[bJ1]at M B;exact⟨kvs,_,_,D,N,X,⟨rfl,rfl,b5,b6,b7⟩,M,B,by rw[bJ1]⟩
 rintro _ ⟨kvs,x3,x4,D,N,X,_,_,_,rfl⟩;rw[bY2,Aa3,hdl];exact bT0 rfl rfl
end
set_option maxHeartbeats 4000000
theorem cK3:C1 ["drawing"] ["drawing"] (B2 bE4):={}
theorem aT4:C1 ["drawing"] ["drawing"] (B2 Y9):={}
theorem sc_crossings:C1 ["drawing", "first", "shut", "reached", "crossed", "row", "k", "p", "q", "beyond"] ["drawing", "first", "shut"] (B2 y7):={}
def cL (l:List Nat):List Int:=l.map λ(x:Nat)=>(x:Int)
theorem aU3 (l:List Nat):tN l=tI (cL l):=aU9 l
theorem dI4 (L:List (List Nat)):L.map tN=(L.map cL).map tI:=by rw[Ae2];exact Az λl _=>aU3 l
theorem aD6 (h:cL a=cL b):a=b:=by
 unfold cL at h
 have:=congrArg (List.map Int.toNat) h
 simpa[Ae2,Function.comp_def]using this
theorem Y8 (a b:List Int):PyData.eqv (tI a) (tI b)=decide (a=b):=by
 unfold tI;rw[PyData.eqv];exact o9 (f:=PyData.int) bI6 a b
theorem dH2 (l:List Nat)(L:List (List Nat)):(L.map tN).any (λz=>PyData.eqv z (tN l))=decide (l∈L):=by
 rw[List.any_map,Dh,List.any_eq_true,decide_eq_true_iff];constructor
 .rintro⟨x,e,h⟩;simp only[Function.comp,aU3,Y8,Ay]at h;rw[<- aD6 h];exact e
 .intro h;exact⟨l,h,by simp[Function.comp,aU3,Y8]⟩
theorem dJ7 (h:cI x=cI y):x=y:=by
 have h1:=congrArg Prod.fst h
 have e:=congrArg Prod.snd h
 simp only[cI]at h1 e;exact Prod.ext (by lia) (by lia)
theorem cS6 (x:Nat×Nat)(sh:List (Nat×Nat)):(sh.map λz=>pD (cI z)).any (λz=>PyData.eqv z (pD (cI x)))=decide (x∈sh):=by
 have:=aR9 (cI x) (sh.map cI)
 rw[Ae2]at this;rw[show(sh.map λz=>pD (cI z))=sh.map (pD ∘ cI) from rfl,this]
 refine Dk.mpr ⟨λh=>?_,λh=>Aa8.mpr ⟨x,h,rfl⟩⟩
 obtain⟨y,w,e⟩:=Aa8.mp h;rw[<- dJ7 e];exact w
theorem cZ0 (L:List (List Nat)):Fit (.list (L.map tN)):=(aL0 (n:=1) λd e=>by obtain⟨x,_,rfl⟩:=Aa8.mp e;rw[aU9];exact M8 _).fit
theorem dM4 (l:List Nat):Fit (tN l):=by rw[aU9];exact FitN.fit (M8 _)
theorem cA5 (L:List (Nat×Nat)):Fit (.list (L.map λz=>pD (cI z))):=(aL0 (n:=1) λd e=>by obtain⟨x,_,rfl⟩:=Aa8.mp e;exact R5 _).fit
def dC7 (ds es:List PyData):Prop:=∃(m:Nat) (dr tr:List (List Nat)),Dw m dr tr/\ds=[.tuple (dr.map tN)]/\es=(U0 ((TT.rds (TT.trn dr) (m+3)).map cL)).map tI
def dF0 (ds es:List PyData):Prop:=∃(m:Nat) (dr tr:List (List Nat)),Dw m dr tr/\ds=[.tuple (dr.map tN)]/\es=((U0 ((TT.rds (TT.trn dr) (m+3)).map cL)).filter λl=>decide (l≠[0,2,1])).map tI
def dF7 (ds es:List PyData):Prop:=∃(m:Nat) (dr tr:List (List Nat)) (x y:Nat) (sh:List (Nat×Nat)),Dw m dr tr/\y∈TT.trn dr x/\ds=[.tuple (dr.map tN),tN (TT.lnd (TT.trn dr) x y),.list (sh.map λz=>pD (cI z))]/\es=(TT.fin (TT.trn dr) sh x y).crs.map λz=>pD (cI z)
def fIn (d:PyData):Option PyData:=if PyData.eqv d (tI [0,2,1]) then none else some d
theorem cY8 (L:List (List Int)):(L.map tI).filterMap fIn=(L.filter λl=>decide (l≠[0,2,1])).map tI:=by
 induction L with
 | nil=>rfl
 | cons l L w=>
  have e:fIn (tI l)=if l=[0,2,1] then none else some (tI l):=by
   unfold fIn;rw[Y8];by_cases h:l=[0,2,1] <;> simp[h]
  rw[Ac7,Ao,e,List.filter_cons];by_cases h:l=[0,2,1]
  .rw[Ae h,Ac (by simp[h])];exact w
  .rw[Ac h,Ae (by simp[h]),Ac7]
   show _::_=_::_
   rw[w]
theorem i5 (r:Nat->List Nat)(p q:Nat):∃a b c:Nat,TT.lnd r p q=[a,b,c]/\(wys (a:Int) (b:Int) (c:Int)).map pD=(TT.wys (TT.lnd r p q)).map λz=>pD (cI z):=by
 unfold TT.lnd;rcases TT.R6 p q (TT.th r p q) with e | e | e <;> rw[e] <;> exact⟨_,_,_,rfl,rfl⟩
section
variable {P:Program}{w:World}{K:Frag}{mg:Str->Option Value}{base:Heap}{a:Ad}
theorem cH3 (T:Tx K mg a):D2 P w K mg base CX0 4 a.cC5 a.cA4 ["drawing"] (spL K dC7):=by
 have z:D2 P w K mg base CX0 3 _ _ _ _:=cE2 T
 refine T.cA6.F.ok cK3 (bS4 λds d ⟨_,_,_,_,e,_⟩=>by rw[e];rfl) (λD A J s H vs Q E hr h=>?_)
 obtain⟨ds,S,es,B,r,⟨m,Y,tr,U,rfl,rfl⟩,q⟩:=h;refine⟨_,(A8 (D0 (C0 (W6 K) (by rfl) T.Q2 boot_sorted (A0 (pcl z hr T.aH1 (A0 (pv 0) A2)) A2)))),aD7 B r ?_ q⟩
 have N:=U.good.rds_len
 have m7:=U.m7
 have M:=S5 (K:=K) (pre:=dF1) (X:=E0) (ρ:=sl0 ["drawing"].length [.tuple (Y.map tN)]) (A1 v0 A5) ⟨m,Y,tr,U,rfl,rfl⟩
 rw[dI4 (TT.rds (TT.trn Y) (m+3))]at M;refine aS9 (aG7 (ts:=(TT.rds (TT.trn Y) (m+3)).map cL) (A1 (EF.e' M) A5) (λt ht=>?_) (by rw[Aa3];lia) (E1 _) (S0 _)) rfl
 obtain⟨l,N,rfl⟩:=Aa8.mp ht;obtain⟨p,R,_,rfl⟩:=U.good.rds_mem.mp N;unfold TT.lnd;rcases TT.R6 p R (TT.th (TT.trn Y) p R) with e | e | e <;> rw[e] <;> simp[cL]
theorem cL4 (T:Tx K mg a):D2 P w K mg base CX0 5 a.aD3 a.aC4 ["drawing"] (spL K dF0):=by
 have z:D2 P w K mg base CX0 4 _ _ _ _:=cH3 T
 refine T.aC6.F.ok aT4 (bS4 λds d ⟨_,_,_,_,e,_⟩=>by rw[e];rfl) (λD A J s H vs Q E hr h=>?_)
 obtain⟨ds,S,es,hS,r,⟨m,Y,tr,U,rfl,rfl⟩,q⟩:=h;obtain⟨M,B,sF⟩:=T.U6;refine⟨_,(A8 (D0 (M3 (T:=["land"]) (N':=["land"]) (is:=[]) rfl (.of rfl rfl rfl (by exact trivial) rfl rfl rfl (by exact trivial)) (S7 (pcl z hr T.cA6 (A0 (pv 0) A2))) (L5 (by decide)) λ_ _ _ _=>⟨(K4 (i:=0) (by decide +kernel:(["land"]:List Str).Nodup) rfl (Or.inl rfl)),(aK3 (C3 (aM1 K hr) (pv 0) (bI8 (v:=.ref M) rfl B rfl) (F8 _))),(pv 0)⟩))),aD7 hS r ?_ q⟩
 have hl:=U.good.rds_len
 have m7:=U.m7
 generalize R:U0 ((TT.rds (TT.trn Y) (m+3)).map cL)=L;have hLl:L.length<=100:=by rw[<- R,(E1 _).length_eq,Aa3];lia
 have N:=M4 (K:=K) (m:=true) (ρ:=sl0 ["drawing"].length [.tuple (Y.map tN)]) (n:=1) (is:=[]) (g:=G7 0) (tt:=bB2 (tOp (bQ3 K true) (D7 0) (tC (.ref M)))) (te:=D7 0) fIn (Z1 (ds:=L.map tI) (EF.e' (S5 (pre:=dC7) (X:=E0) (A1 v0 A5) ⟨m,Y,tr,U,rfl,by rw[R]⟩))) (by rw[Aa3];unfold PySem.sizeLine;lia) (λd hd=>by
  obtain⟨l,hl,rfl⟩:=Aa8.mp hd;refine⟨_,B7,?_⟩;have e:=bA8 (K:=K) (m:=false) (ρ:=(slC (sl0 ["drawing"].length [.tuple (Y.map tN)]) 1 []).set 0 (.val (tI l))) (d:=tI l) (d':=tI [0,2,1]) v0 (bV9 λH=>.tup (sF H) (.cons (.int _) (.cons (.int _) (.cons (.int _) .nil)))) (FitN.fit (M8 _)) (FitN.fit (M8 _))
  show match (if PyData.eqv (tI l) (tI [0,2,1]) then none else some (tI l)) with | none=>_ | some y=>_
  cases h:PyData.eqv (tI l) (tI [0,2,1]) with
  | true=>rw[h]at e;exact C5 e
  | false=>rw[h]at e;exact⟨C5 e,A6 rfl⟩)
 rw[cY8]at N;exact aS9 N rfl
end
set_option maxHeartbeats 1000000
section
variable {P:Program}{w:World}{K:Frag}{mg:Str->Option Value}{base:Heap}{a:Ad}
theorem cV0 (T:Tx K mg a):D2 P w K mg base CX0 4 a.aO4 a.aO2 ["drawing", "first", "shut"] (spL K dF7):=by
 have X:D2 P w K mg base CX0 1 _ _ _ _:=bZ8 T
 have U:D2 P w K mg base CX0 3 _ _ _ _:=dE2 T
 refine T.aO8.F.ok sc_crossings (bS4 λds d ⟨_,_,_,_,_,_,_,_,e,_⟩=>by rw[e];rfl) (λcdv A outer s H vs Q E hr h=>?_)
 obtain⟨ds,S,es,hS,r,⟨m,Y,tr,x,y,sh,dw,hy,rfl,rfl⟩,q⟩:=h;refine⟨_,(A3 (psS 3 sc_crossings (C4 (A0 (pv 1) A2)))
   (A3 (psS 4 sc_crossings (C4 A2))
   (A3 (psS 5 sc_crossings (pcl X hr T.U5 (A0 (pv 1) A2)))
   (A3 (psS 6 sc_crossings A4)
   (A3 (e5 An (C3 bN0 (pv 6) (C0 (aZ3 K) (by rfl) T.P9 Bm (A0 (pv 5) A2)) (F8 _)) (A3 (psS 7 sc_crossings (B1 (ixK K) (B1 (ixK K) (pv 5) (pv 6) (λ_ _=>rfl)) A4 (λ_ _=>rfl)))
   (A3 (psS 8 sc_crossings (B1 (ixK K) (B1 (ixK K) (pv 5) (pv 6) (λ_ _=>rfl)) A4 (λ_ _=>rfl)))
   (A3 (psS 9 sc_crossings (pcl U hr T.Q8 (A0 (pv 0) (A0 (pv 8) (A0 (pv 7) A2)))))
   (A3 (O1 (PW.pt (aF3 (C3 (V0 K hr) (pv 9) (pv 3) rfl) (aF3 (C3 (V0 K hr) (D6 (A0 (pv 7) (A0 (pv 8) A2))) (pv 2) rfl) (aR4 (C3 (V0 K hr) (D6 (A0 (pv 8) (A0 (pv 7) A2))) (pv 2) rfl))))) (A3 (F0 (K9 Ab1 Ah Ag D5 (pv 3) (A0 (pv 9) A2)))
   (A3 (F0 (K9 Ab1 Ah Ag D5 (pv 4) (A0 (D6 (A0 (pv 7) (A0 (pv 8) A2))) A2)))
   (A8 (F0 (K9 Ab1 PySem.F.slot_list_extend PySem.F.type_list_extend cG0 (pv 5) (A0 (pcl X hr T.U5 (A0 (pv 9) A2)) A2)))))) F3)
   (A8 (dG2 (i:=6) sc_crossings.nd rfl (Or.inl rfl) A4 dJ9)))))))
   (A8 (D0 (pv 4)))))))),aD7 hS r ?_ q⟩
 have G:=dw.good
 have m7:=dw.m7
 obtain⟨wa,wb,wc,we,ww⟩:=i5 (TT.trn Y) x y;refine A9 (F9 (ds:=[tN (TT.lnd (TT.trn Y) x y)]) (E9 (A1 v1 A5)) ?_ (show 3<10 by decide))
 refine A9 (F9 (E9 A5) ?_ (show 4<10 by decide))
 refine A9 (F9 (S5 (A1 v1 A5) ⟨(wa:Int),(wb:Int),(wc:Int),by rw[we];rfl,ww.symm⟩) ?_ (show 5<10 by decide))
 refine A9 (E7 A7 ?_);refine A9 (aB0 (λk ρ=>∃(j:Nat) (x7 x8 x9:Sl),k+j=200/\(x7.nb=true/\x8.nb=true/\x9.nb=true)/\(TT.run (TT.trn Y) sh (TT.ini (TT.lnd (TT.trn Y) x y)) j).k=j/\ρ=[.val (.tuple (Y.map tN)),.val (tN (TT.lnd (TT.trn Y) x y)),.val (.list (sh.map λz=>pD (cI z))),.own ((TT.run (TT.trn Y) sh (TT.ini (TT.lnd (TT.trn Y) x y)) j).rch.map tN),.own ((TT.run (TT.trn Y) sh (TT.ini (TT.lnd (TT.trn Y) x y)) j).crs.map λz=>pD (cI z)),.own ((TT.run (TT.trn Y) sh (TT.ini (TT.lnd (TT.trn Y) x y)) j).row.map λz=>pD (cI z)),.val (.int (j:Int)),x7,x8,x9]) ⟨200,0,.no,.no,.no,rfl,⟨rfl,rfl,rfl⟩,rfl,rfl⟩ ?_)
 .rintro k ρ' ⟨j,x7,x8,x9,hkj,⟨b7,b8,b9⟩,N,rfl⟩;have B:=TT.t6 G hy (sh:=sh) j;have rl:=B.row_len G;have sl:=B.sub G;have bk:=B.k;generalize hs:TT.run (TT.trn Y) sh (TT.ini (TT.lnd (TT.trn Y) x y)) j=s at B rl sl bk N;refine⟨decide ((j:Int)<((s.row.map λz=>pD (cI z)).length:Int)),C5 (aX3 (g:=λi j=>decide (i<j)) v6 (S8 (ds:=s.row.map λz=>pD (cI z)) (A1 (K0 (i:=5) rfl) A5))),?_⟩
  rw[Aa3];by_cases hlt:j<s.row.length
  .rw[Bc (by lia),Ae rfl]
   have hx:s.row.getD s.k (0,0)∈s.row:=by rw[Ac0,Aa2 (by lia)];exact Cr _
   have D:(s.row)[j]? = some (s.row.getD s.k (0,0)):=by rw[Ac0,N,Aa2 hlt];rfl
   have J:TT.run (TT.trn Y) sh (TT.ini (TT.lnd (TT.trn Y) x y)) (j+1)=TT.stp (TT.trn Y) sh s:=by show TT.stp _ _ (TT.run _ _ _ j)=_;rw[hs]
   unfold TT.stp at J;rw[Ae (by lia)]at J
   generalize hz:s.row.getD s.k (0,0)=z at hx D J;obtain⟨m1,m2,m3⟩:=B.row_mem G hx;have R:atI (s.row.map λz=>pD (cI z)) (j:Int)=some (pD (cI z)):=W2 j rfl (by rw[Aa9,D];rfl)
   refine A9 (E7 (d:=.int (z.1:Int)) (LV.E.imm (m:=false) (D9 (ds:=[.int (z.1:Int),.int (z.2:Int)]) (D9 (ds:=s.row.map λz=>pD (cI z)) (K0 (i:=5) rfl) v6 rfl R) (A7 (i:=0)) rfl rfl)) ?_)
   show W K _ [.val (.tuple (Y.map tN)),.val (tN (TT.lnd (TT.trn Y) x y)),.val (.list (sh.map λz=>pD (cI z))),.own (s.rch.map tN),.own (s.crs.map λz=>pD (cI z)),.own (s.row.map λz=>pD (cI z)),.val (.int (j:Int)),.val (.int (z.1:Int)),x8,x9] _
   refine A9 (E7 (d:=.int (z.2:Int)) (LV.E.imm (m:=false) (D9 (ds:=[.int (z.1:Int),.int (z.2:Int)]) (D9 (ds:=s.row.map λz=>pD (cI z)) (K0 (i:=5) rfl) v6 rfl R) (A7 (i:=1)) rfl rfl)) ?_)
   refine A9 (E7 (d:=tN (TT.lnd (TT.trn Y) z.2 z.1)) (C8 (A1 v0 (A1 v8 (A1 v7 A5))) ⟨m,Y,tr,z.2,z.1,dw,G.sym m1,rfl,rfl⟩) ?_);show W K _ [.val (.tuple (Y.map tN)),.val (tN (TT.lnd (TT.trn Y) x y)),.val (.list (sh.map λz=>pD (cI z))),.own (s.rch.map tN),.own (s.crs.map λz=>pD (cI z)),.own (s.row.map λz=>pD (cI z)),.val (.int (j:Int)),.val (.int (z.1:Int)),.val (.int (z.2:Int)),.val (tN (TT.lnd (TT.trn Y) z.2 z.1))] _
   generalize M:[.val (.tuple (Y.map tN)),.val (tN (TT.lnd (TT.trn Y) x y)),.val (.list (sh.map λz=>pD (cI z))),Sl.own (s.rch.map tN),.own (s.crs.map λz=>pD (cI z)),.own (s.row.map λz=>pD (cI z)),.val (.int (j:Int)),.val (.int (z.1:Int)),.val (.int (z.2:Int)),.val (tN (TT.lnd (TT.trn Y) z.2 z.1))]=ρ0
   have t1:=a8 (K:=K) (m:=false) (ρ := ρ0) (ds:=s.rch.map tN) (A6 (i:=9) (by rw[<- M];rfl)) (K0 (i:=3) (by rw[<- M];rfl)) rfl (dM4 _) (cZ0 _)
   rw[dH2]at t1;have t2:=a8 (K:=K) (m:=false) (ρ := ρ0) (d:=pD (cI z)) (ds:=sh.map λz=>pD (cI z)) (F5 (A1 (A6 (i:=7) (by rw[<- M];rfl)) (A1 (A6 (i:=8) (by rw[<- M];rfl)) A5))) (A6 (i:=2) (by rw[<- M];rfl)) rfl (R5 _).fit (cA5 _)
   rw[cS6]at t2;have t3:=a8 (K:=K) (m:=false) (ρ := ρ0) (d:=pD (cI (z.2,z.1))) (ds:=sh.map λz=>pD (cI z)) (F5 (A1 (A6 (i:=8) (by rw[<- M];rfl)) (A1 (A6 (i:=7) (by rw[<- M];rfl)) A5))) (A6 (i:=2) (by rw[<- M];rfl)) rfl (R5 _).fit (cA5 _)
   rw[cS6]at t3;generalize hs':TT.run (TT.trn Y) sh (TT.ini (TT.lnd (TT.trn Y) x y)) (j+1)=s' at J;refine A9 (cO3 ([.val (.tuple (Y.map tN)),.val (tN (TT.lnd (TT.trn Y) x y)),.val (.list (sh.map λz=>pD (cI z))),Sl.own (s'.rch.map tN),.own (s'.crs.map λz=>pD (cI z)),.own (s'.row.map λz=>pD (cI z)),.val (.int (j:Int)),.val (.int (z.1:Int)),.val (.int (z.2:Int)),.val (tN (TT.lnd (TT.trn Y) z.2 z.1))]) (aK7 (C5 t1) λ_=>aK7 (C5 t2) λ_=>C5 t3) (λh=>?_) (λh=>J5 ?_) ?_)
   .simp only[Ba,Bool.not_eq_true',Df]at h;rw[Ae h]at J;subst M;obtain⟨va,vb,vc,ve,vw⟩:=i5 (TT.trn Y) z.2 z.1;refine A9 (K2 (d:=tN (TT.lnd (TT.trn Y) z.2 z.1)) rfl (A6 (i:=9) rfl) (by rw[Aa3];unfold PySem.sizeLine;lia) ?_)
    have cl:s.crs.length<=100:=by have:=congrArg List.length B.e;simp at this;lia
    refine A9 (K2 (d:=pD (cI z)) rfl (F5 (A1 v7 (A1 v8 A5))) (by rw[Aa3];unfold PySem.sizeLine;lia) ?_)
    refine cG7 rfl (S5 (pre:=bZ7) (A1 (A6 (i:=9) rfl) A5) ⟨(va:Int),(vb:Int),(vc:Int),by rw[ve];rfl,rfl⟩) ?_ ?_
    .rw[Aa3];show _+3<=_;unfold PySem.sizeLine;lia
    .rw[J,vw];simp only[Ad2,Ac7,Cs];rfl
   .have h':¬(TT.lnd (TT.trn Y) z.2 z.1∉s.rch/\z∉sh/\(z.2,z.1)∉sh):=λhh=>by simp[hh]at h
    rw[Ac h']at J;rw[<- M,J]
   .refine dM0 (x:=(j:Int)) (y:=1) rfl A7 ⟨199-j,by lia,j+1,.val (.int (z.1:Int)),.val (.int (z.2:Int)),.val (tN (TT.lnd (TT.trn Y) z.2 z.1)),by lia,⟨rfl,rfl,rfl⟩,?_,?_⟩
    .rw[hs',J];split <;> (show s.k+1=j+1;rw[N])
    .rw[hs'];rfl
  .rw[Aq (by lia),Ac Ai]
   have e:=TT.fin_of G hy (sh:=sh) (by lia) (m:=j) (by lia) (by rw[hs];lia)
   rw[hs]at e;exact bT0 rfl (by rw[e])
end
end K34
namespace TT
open Classical
section
variable {F G:Nat->Nat}{m:Nat}{f:Nat->Nat}{d t:List (List Nat)}
theorem Bt.rs (B:Bt F G m f d t):Rs (trn d):=⟨B.good.nd,B.good.self,B.good.tri,λp q h=>B.good.sym h,B.h1⟩
end
structure MI (r:Nat->List Nat)(sh:Nat->Nat->Prop)(a b:Nat)(met:List (List Nat))(D:List (Nat×Nat)):Prop where
 nd:met.Nodup
 hd:lnd r a b∈met
 rc:∀l∈met,∃p q,q∈r p/\l=lnd r p q/\Rc r sh a b p q
 cl:∀x∈D,x.2∈r x.1/\(¬sh x.1 x.2->lnd r x.2 x.1∈met)
section
variable {n:Nat}{r:Nat->List Nat}{sh:Nat->Nat->Prop}{a b:Nat}{met:List (List Nat)}{D:List (Nat×Nat)}
theorem MI.ini (h:b∈r a):MI r sh a b [lnd r a b] []:=⟨by simp,by simp,λl e=>by simp at e;exact⟨a,b,h,e,.base⟩,λx w=>by cases w⟩
theorem MI.add (G:Good n r)(M:MI r sh a b met D)(hl:l∈met)(Y:x∈wys l)(J:¬sh x.1 x.2)(U:lnd r x.2 x.1∉met):MI r sh a b (met++[lnd r x.2 x.1]) (D++[x]):=by
 obtain⟨p,q,w,rfl,hr⟩:=M.rc l hl;obtain⟨m,Q⟩:=G.wys_back w Y;have s:Rc r sh a b x.1 x.2:=by
  have X:=Rc.rot hr (G.th w)
  have R:=Rc.rot X (G.tri _ _ _ (G.th w))
  rcases (G.wys_lnd w).mp Y with rfl | rfl | rfl
  .exact hr
  .exact X
  .exact R
 refine⟨?_,Al _ M.hd,λl hl=>?_,λy hy=>?_⟩
 .rw[Aa4];exact⟨M.nd,by simp,λy hy z N e=>U (by rw[Ad8.mp N]at e;rw[<- e];exact hy)⟩
 .rcases Aa0.mp hl with hl | hl
  .exact M.rc l hl
  .exact⟨x.2,x.1,G.sym m,Ad8.mp hl,.cross s m J⟩
 .rcases Aa0.mp hy with hy | hy
  .exact⟨(M.cl y hy).1,λh=>Al _ ((M.cl y hy).2 h)⟩
  .rw[Ad8.mp hy];exact⟨m,λ_=>by simp⟩
theorem MI.skip (G:Good n r)(M:MI r sh a b met D)(e:l∈met)(m:x∈wys l)(h:sh x.1 x.2\/lnd r x.2 x.1∈met):MI r sh a b met (D++[x]):=by
 obtain⟨p,q,w,rfl,hr⟩:=M.rc l e;obtain⟨Y,X⟩:=G.wys_back w m;refine⟨M.nd,M.hd,M.rc,λy hy=>?_⟩
 rcases Aa0.mp hy with hy | hy
 .exact M.cl y hy
 .rw[Ad8.mp hy];exact⟨Y,λs=>h.elim (λz=>absurd z s) id⟩
theorem MI.sub (G:Good n r)(M:MI r sh a b met D):met.length+4<=2*n:=by
 have h:=bS7 M.nd (m:=rds r n) λl w=>by
  obtain⟨p,q,z,e,_⟩:=M.rc l w;exact G.rds_mem.mpr ⟨p,q,z,e⟩
 have:=G.rds_len
 lia
theorem MI.fin (G:Good n r)(M:MI r sh a b met D)(h:b∈r a)(s:∀l∈met,∀x∈wys l,x∈D):l∈met↔∃p q,q∈r p/\l=lnd r p q/\Rc r sh a b p q:=by
 constructor
 .exact M.rc l
 .rintro⟨p,q,w,rfl,hr⟩;have z:∀{p q},Rc r sh a b p q->q∈r p/\lnd r p q∈met:=λhr=>by
   induction hr with
   | base=>exact⟨h,M.hd⟩
   | @rot q x y _ ha ih=>
    have e:=G.th_un ha
    exact⟨(C7 (G.tri _ _ _ ha)).1,by rw[e,<- G.lnd_rot ih.1];exact ih.2⟩
   | @cross p q _ w hs ih=>
    exact⟨G.sym w,(M.cl (p,q) (s _ ih.2 (p,q) ((G.wys_lnd w).mpr (.inl rfl)))).2 hs⟩
  exact(z hr).2
end
end TT
namespace TT
section
variable {n:Nat}{r:Nat->List Nat}{sh:Nat->Nat->Prop}{a b c x y p q u v:Nat}
theorem dG9 (w:a≠b)(z:b≠c)(m:a≠c):adj [a,b,c] x y↔(x=a/\y=b)\/(x=b/\y=c)\/(x=c/\y=a):=by
 rw[adj_iff];constructor
 .rintro (⟨p,s,e⟩ | ⟨p,e,h⟩)
  .match p,e with
   | [],e=>simp at e;lia
   | [_],e=>simp at e;lia
   | [_,_],e=>simp at e
   | _::_::_::p,e=>simp at e
  .match p,e with
   | [],e=>simp at e
   | [_],e=>simp at e
   | [_,_],e=>simp at e h;lia
   | _::_::_::p,e=>simp at e
 .rintro (⟨rfl,rfl⟩ | ⟨rfl,rfl⟩ | ⟨rfl,rfl⟩)
  .exact .inl ⟨[],[c],rfl⟩
  .exact .inl ⟨[a],[],rfl⟩
  .exact .inr ⟨[y,b],rfl,rfl⟩
end
def rsn (u v:Nat->Nat->Bool)(p q:Nat):Int:=(if u p q then 1 else 0)-(if v p q then 1 else 0)
structure Po (r:Nat->List Nat)(u v:Nat->Nat->Bool)(H:Nat->Nat->Int):Prop where
 fa:∀q x y,adj (r q) x y->H q x=H x y
 st:∀p q,q∈r p->H q p=H p q-rsn u v p q
 z:H 0 2=0
section
variable {n:Nat}{r:Nat->List Nat}{u v w:Nat->Nat->Bool}{H H':Nat->Nat->Int}{a b c p q:Nat}
theorem Po.refl:Po r u u λ_ _=>0:=⟨λ_ _ _ _=>rfl,λp q _=>by unfold rsn;lia,rfl⟩
theorem Po.symm (h:Po r u v H):Po r v u λp q => - H p q:=⟨λq x y e=>by rw[h.fa q x y e],λp q s=>by have:=h.st p q s;unfold rsn at *;lia,by have:=h.z;lia⟩
theorem Po.trans (h:Po r u v H)(h':Po r v w H'):Po r u w λp q=>H p q+H' p q:=
 ⟨λq x y e=>by rw[h.fa q x y e,h'.fa q x y e],λp q s=>by have:=h.st p q s;have:=h'.st p q s;unfold rsn at *;lia,by have:=h.z;have:=h'.z;lia⟩
theorem Po.lnd (G:Good n r)(h:Po r u v H)(m:q∈r p)(z:q'∈r p')(e:lnd r p q=lnd r p' q'):H p q=H p' q':=
 (cJ4 G (P:=λx y=>H x y=H p' q') (λq x y s=>by rw[h.fa q x y s]) m z e).mpr rfl
theorem cZ5 (G:Good n r)(S:Rs r)(Y:b∈r a)(X:c∈r b)(U:a∈r c)
  (h1:∀p q,q∈r p->((p=a/\q=b)\/(p=b/\q=c)\/(p=c/\q=a))->u p q=true/\v p q=false)
  (h2:∀p q,q∈r p->((q=a/\p=b)\/(q=b/\p=c)\/(q=c/\p=a))->u p q=false/\v p q=true)
  (h3:∀p q,q∈r p->¬((p=a/\q=b)\/(p=b/\q=c)\/(p=c/\q=a))->¬((q=a/\p=b)\/(q=b/\p=c)\/(q=c/\p=a))->u p q=v p q) :
  ∃(H:Nat->Nat->Int) (e:Int),(e=1\/e = -1)/\Po r u v H/\∀p q,H p q=0\/H p q=e:=by
 have n1:a≠b:=λe=>G.self b (by rw[e]at Y;exact Y)
 have n2:b≠c:=λe=>G.self c (by rw[e]at X;exact X)
 have n3:a≠c:=λe=>G.self c (by rw[e]at U;exact U)
 have nd:[a,b,c].Nodup:=by simp[n1,n2,n3]
 have C:Cy r (gi [a,b,c]) ([a,b,c].length-1):=Cy.ofList nd (by simp) λx y h=>by
  rcases (dG9 n1 n2 n3).mp h with⟨rfl,rfl⟩ | ⟨rfl,rfl⟩ | ⟨rfl,rfl⟩
  .exact Y
  .exact X
  .exact U
 obtain⟨f,s,D⟩:=C.sd S;have fs:∀p q,((p=a/\q=b)\/(p=b/\q=c)\/(p=c/\q=a))->f p q=s:=λp q h=>by
  rcases h with⟨rfl,rfl⟩ | ⟨rfl,rfl⟩ | ⟨rfl,rfl⟩
  .exact D.fs 0 (by simp)
  .exact D.fs 1 (by simp)
  .exact D.fs 2 (by simp)
 have zl:∀{x y:Nat},zc (gi [a,b,c]) ([a,b,c].length-1) x y=true↔((x=a/\y=b)\/(x=b/\y=c)\/(x=c/\y=a))\/((y=a/\x=b)\/(y=b/\x=c)\/(y=c/\x=a)):=λ{x y}=>by
  rw[cX1 nd (by simp),dG9 n1 n2 n3,dG9 n1 n2 n3]
 have fx:∀{x y:Nat},y∈r x->xor (f x y) (f y x)=zc (gi [a,b,c]) ([a,b,c].length-1) y x:=λ{x y} h=>by
  obtain⟨q,J⟩:=cK2 h;have F:=D.fa _ _ _ J;have B:=D.fb _ _ _ (S.tri _ _ _ J);rw[F];exact B
 have P:∀(e:Int),(e=1/\f 0 2 = !s\/e = -1/\f 0 2=s)->Po r u v λp q=>if f p q=f 0 2 then 0 else e:=λe he=>by
  refine⟨λq x y ha=>by rw[D.fa q x y ha],λp q J=>?_,by simp⟩
  have Q:=fx J
  by_cases N:(p=a/\q=b)\/(p=b/\q=c)\/(p=c/\q=a)
  .obtain⟨F,B⟩:=h1 p q J N;rw[zl.mpr (.inr N),fs p q N]at Q;have M:f q p = !s:=by revert Q;cases s <;> cases f q p <;> simp
   unfold rsn;rw[fs p q N,M,F,B];rcases he with⟨rfl,m⟩ | ⟨rfl,m⟩ <;> rw[m] <;> cases s <;> simp
  by_cases R:(q=a/\p=b)\/(q=b/\p=c)\/(q=c/\p=a)
  .obtain⟨F,B⟩:=h2 p q J R;rw[zl.mpr (.inl R),fs q p R]at Q;have M:f p q = !s:=by revert Q;cases s <;> cases f p q <;> simp
   unfold rsn;rw[fs q p R,M,F,B];rcases he with⟨rfl,m⟩ | ⟨rfl,m⟩ <;> rw[m] <;> cases s <;> simp
  .have hz:zc (gi [a,b,c]) ([a,b,c].length-1) q p=false:=by
    rw[Bool.eq_false_iff];intro z;rcases zl.mp z with z | z
    .exact R z
    .exact N z
   rw[hz]at Q
   have:f p q=f q p:=by revert Q;cases f p q <;> cases f q p <;> simp
   unfold rsn;rw[h3 p q J N R,this];lia
 by_cases m:f 0 2=s
 .exact⟨_,-1,.inr rfl,P _ (.inr ⟨rfl,m⟩),λp q=>by by_cases h:f p q=f 0 2 <;> simp[h]⟩
 .have m:f 0 2 = !s:=by revert m;cases f 0 2 <;> cases s <;> simp
  exact⟨_,1,.inl rfl,P _ (.inl ⟨rfl,m⟩),λp q=>by by_cases h:f p q=f 0 2 <;> simp[h]⟩
end
section
variable {n:Nat}{r:Nat->List Nat}{sh:List (Nat×Nat)}{a b:Nat}
theorem bO4 (G:Good n r)(h:b∈r a):∀m i x,(run r sh (ini (lnd r a b)) m).crs[i]? = some x->lnd r x.1 x.2∈(run r sh (ini (lnd r a b)) m).rch.take (i+1)
 | 0,i,x,e=>by simp[run,ini]at e
 | m+1,i,x,e=>by
  have J:=bO4 G h m
  have B:=t6 G h (sh:=sh) m
  have M:(run r sh (ini (lnd r a b)) m).rch.length=(run r sh (ini (lnd r a b)) m).crs.length+1:=by rw[B.e,Ar,Aa3]
  unfold run at e ⊢;generalize run r sh (ini (lnd r a b)) m=s at *;unfold stp at e ⊢;split at e
  .rename_i w;rw[Ae w];split at e
   .rename_i Y;rw[Ae Y];simp only at e ⊢;by_cases hi:i<s.crs.length
    .rw[Bl hi]at e;rw[Dn (by lia)]
     exact J i x e
    .rw[Bp (by lia)]at e
     have X:i-s.crs.length=0:=by
      rcases Nat.eq_zero_or_pos (i-s.crs.length) with z | z
      .exact z
      .rw[Ad6 (by simp;lia)]at e;cases e
     rw[X]at e;simp at e;have U:i=s.crs.length:=by lia
     rw[U,<- M,Dn (Aa7 _),Cf,<- e];have N:s.row.getD s.k (0,0)∈s.row:=by
      rw[Ac0,Aa2 w];exact Cr w
     have:=(B.row_mem G N).2.1
     rw[Ac0]at this;exact this
   .rename_i Y;rw[Ac Y];exact J i x e
  .rename_i w;rw[Ac w];exact J i x e
end
end TT
namespace L2
open PySem PySem.Spec PyProof.Rows
def aL3 (K:Frag):R2:=λx y H Q=>∃a b ks kv v,x=.ref a/\y=.ref b/\SqT K H b (ks.map V.int)/\Rd H a (dicO a kv)/\aZ1 K H kv/\atK kv ks=some v/\Q v H
section
variable {X:Cx}
theorem V5 (K:Frag)(hr:Room k X.A)(h:X.K=K:=by rfl):IxR X (aL3 K):=by
 subst h;intro ea eb Y s σ H x y v u Q I P ry ⟨a,b,m,kv,z,J,M,R,N,D,B,q⟩ F;subst J M;cases (show v=Value.ref a from P)
 cases (show u=Value.ref b from ry)
 obtain⟨xs,r,zz,hd,U⟩:=bF3 I N D;have e:=KvR.at_ r m;rw[B]at e;cases hp:atKey xs m with
 | none=>rw[hp]at e;exact e.elim
 | some p=>
  rw[hp]at e;have fin:EP X Y σ Q p.2 {s with toks:=s.toks+(tupleKind (intKind X.prog X.w)).draws m}:=⟨z,H,I.tok _,e,q⟩
  exact subscriptTail_builtinR (x:=p.2) U.typeIs slot_dict_getitem.lookup (wpAny_getItem_heap (Q:=λr s'=>r=p.2/\EP X Y σ Q r s') (tupleKind_room_in1 (by have:=hr.un;lia)) (aB9 I R) U hp ⟨rfl,fin⟩) F
end
end L2
namespace LV
open PySem L2
section
variable {K:Frag}{ρ:List Sl}{m:Bool}{ta tb tv:TE}{d:PyData}{ks:List Int}{kvs:List (List Int×PyData)}{H:Hp}
theorem cB9:∀(u v:List Int),u.map PyData.int=v.map PyData.int->u=v
 | [],[],_=>rfl
 | [],_::_,h=>by simp at h
 | _::_,[],h=>by simp at h
 | a::u,b::v,h=>by simp at h;rw[h.1,cB9 u v h.2]
theorem bL8:∀{a b:List (List Int×PyData)},J8 a=J8 b->a=b
 | [],[],_=>rfl
 | [],_::_,h=>by simp[J8]at h
 | _::_,[],h=>by simp[J8]at h
 | x::a,y::b,h=>by
  simp only[J8,Ac7,Bd,Dr,PyData.tuple.injEq]at h;rw[bL8 (a:=a) (b:=b) h.2,Prod.ext (cB9 _ _ h.1.1) h.1.2]
theorem aR1 (r:Rep K H v (.dict (J8 kvs))):∃a kv,v=.ref a/\Rd H a (dicO a kv)/\KvF K H kv kvs:=by
 generalize h:J8 kvs=ds at r;cases r with
 | exc e=>cases kvs <;> simp[J8]at h
 | ptr=>cases kvs <;> simp[J8]at h
 | adr=>cases kvs <;> simp[J8]at h
 | dic e k z=>exact⟨_,_,rfl,e,by rw[bL8 (h.trans z)];exact k⟩
theorem KvF.keyR (r:KvF K H kv kvs):aZ1 K H kv:=by
 unfold KvF at r;induction r with
 | nil=>intro z hz;cases hz
 | cons a _ e=>
  intro z hz;rcases Aa1.mp hz with rfl | hz
  .exact a.2.1
  .exact e z hz
theorem KvF.keys (r:KvF K H kv kvs):kv.map (·.1)=kvs.map (·.1):=by
 unfold KvF at r;induction r with
 | nil=>rfl
 | cons a _ e=>rw[Ac7,Ac7,a.1,e]
def atD (kvs:List (List Int×PyData))(ks:List Int):Option PyData:=(kvs.find? λx=>decide (x.1=ks)).map (·.2)
theorem KvF.at_ {kv:List (List Int×Addr×V)}(r:KvF K H kv kvs)(h:atD kvs ks=some d):∃v,atK kv ks=some v/\bF2 K H v d:=by
 unfold KvF at r;induction r with
 | nil=>simp[atD]at h
 | @cons p q ps qs a _ ih=>
  unfold atD at h;rw[By]at h;unfold atK;rw[By,a.1];by_cases e:q.1=ks
  .simp only[e,decide_true,Option.map_some,Option.some.injEq]at h ⊢;exact⟨_,rfl,by rw[<- h];exact a.2.2⟩
  .simp only[e,decide_false]at h ⊢;exact ih h
theorem cU6:∀{d:PyData},bF2 K H v d->Rep K H v d
 | .none,r=>by cases r;exact .non
 | .bool _,r=>by cases r;exact .bl _
 | .int _,r=>by cases r;exact .int _
 | .str _,r=>by cases r;exact .str _
 | .tuple _,⟨a,l,e,w,s⟩=>by rw[e,w];exact .tup s (M0 l)
 | .list _,r=>r.elim
 | .dict _,r=>r.elim
theorem aT1:∀l:List Int,G5 (l.map PyData.int)=true
 | []=>rfl
 | a::l=>by simp[G5,imm,aT1 l]
theorem aB8 (h:kvs.all (λx=>aK8 x.2)=true):dD kvs=.dict (J8 kvs):=Ae h
theorem Q9 (z:E K false ta ρ (.dict (J8 kvs)))(Y:E K false tb ρ (.tuple (ks.map PyData.int)))(h:atD kvs ks=some d)(hi:imm d=true:=by rfl):E K m (tOp (aL3 K) ta tb) ρ d:=
 E.bor (E.imm (m:=false) (bT6 false false z Y λS H x y Q _ X U q=>by
  obtain⟨a,kv,rfl,e,k⟩:=aR1 X;cases U with
  | @tup b xs _ s r=>
   rw[Reps.ints r]at s;obtain⟨v,h1,w⟩:=k.at_ h;exact⟨a,b,ks,kv,v,rfl,rfl,s,e,k.keyR,h1,q v H (L2.Same.rf _) (cU6 w)⟩) hi)
end
end LV
namespace PySem
open PySem.Spec PyProof.Rows PySem.W
def RawD (h:Heap)(d:Addr)(es:Array DictEntry)(ep:Nat):Prop:=∃o,h.get? d=some o/\o.cls=.type "dict" /\ o.data=.dict es ep
section
variable {prog:Program}{w:World}{A:Around}{E:Ef}{s:Shared}{it d v:Addr}{i ep:Nat}{es:Array DictEntry}
theorem RawD.ty (x:RawD s.heap d es ep):s.TypeIs (.ref d) "dict" := x.imp λ_ z=>⟨z.1,z.2.1⟩
theorem RawD.kp (x:RawD h d es ep)(e:∀o,h.get? d=some o->h'.get? d=some o):RawD h' d es ep:=x.imp λo z=>⟨e o z.1,z.2⟩
theorem RawD.lt (x:RawD h d es ep):d<h.objs.size:=let ⟨_,z,_⟩:=x;Ab3 z
end
end PySem
namespace L2
open PySem PySem.Spec PyProof.Rows PySem.W
section
variable {X:Cx}{aA:Eg}{σ:St}{H:Hp}{s:Shared}{a b:Addr}{kv:List (List Int×Addr×V)}
theorem dI2 (I:Inv X aA σ H s)(e:Rd H a (dicO a kv)):∃(xs:List (List Int×Addr×Value)) (es:Array DictEntry) (ep:Nat),KvR kv xs/\kv.length<=sizeLine/\(a==sysModules)=false/\RawD s.heap a es ep/\es.toList=xs.map dEnt/\∃o,s.heap.get? a=some o/\o.dict=none:=by
 obtain⟨⟨xs,r,z,U,o,es,ep,h1,w,m,Y,J⟩,_⟩:=bU7 I e;exact⟨xs,es,ep,r,z,U,⟨o,h1,w.1,m⟩,Y,o,h1,w.2.1⟩
theorem aT2 {xs:List (List Int×Addr×Value)}{es:Array DictEntry}(r:KvR kv xs)(h:es.toList=xs.map dEnt):es.size=kv.length:=by
 rw[<- Array.length_toList,h,Aa3,<- Paired.length r]
end
end L2
namespace PySem
open PySem.Spec PyProof.Rows
end PySem
namespace L2
open PySem PySem.Spec PyProof.Rows PySem.W
end L2
namespace LV
open PySem L2
end LV
namespace PySem
open PySem.Spec PyProof.Rows PySem.W
section
variable {prog:Program}{w:World}{A:Around}{E:Ef}{s:Shared}{it d v:Addr}{i ep:Nat}{es:Array DictEntry}
theorem bA6 (lo:(d==sysModules)=false)(Y:RawD s.heap d es ep)
  (q:Q (.ref s.heap.objs.size) {s with heap:=s.heap.push {cls:=.type "dict_keyiterator",data:=.fields #[.ref d,.int 0 0,.int es.size 0,.int ep 0]}}):wpAny (model prog w) A (pyIter (.ref d)) Q E s:=by
 obtain⟨b,z,X,m⟩:=id Y;have e:s.TypeIs (.ref d) "dict" := Y.ty;refine wpAny_pyIter_slot e F.slot_dict_iter (Bf F.slot_dict_iter e F.entry_dict_iter ?_ (F.args_dict_iter_1 _));unfold Builtin.«dict.__iter__»;refine Aa ?_;unfold Builtin.Dict.dictSlotNone;refine Aa (wpAny_notOrdered_dict e ?_);show wpAny _ _ (pure (Value.ref d)) _ _ s;refine Ab ?_;show wpAny _ _ (Builtin.Dict.showsAll d >>= _) _ _ s;unfold Builtin.Dict.showsAll;rw[Ac (by rw[lo];exact Ai)];refine Aa (Ab ?_)
 refine Aa (wpAny_dictEntries z m (Aa (wpAny_dictEpoch z m ?_)));exact Aa (Be (Ab ⟨_,rfl, "dict_keyiterator",_,⟨_,Ac3 _ rfl,rfl⟩,F.slot_dict_keyiterator_next.lookup,q⟩))
theorem bC0 (e:s.heap.IsKeyIter it d i es.size ep)(M:RawD s.heap d es ep)(hi:i<es.size)
  (q:∀h',h'.IsKeyIter it d (i+1) es.size ep->Heap.SameBut it s.heap h'->Q (some es[i].key) {s with heap:=h'}):wpAny (model prog w) A (pyNext (.ref it)) Q E s:=by
 obtain⟨a,Y,J,m⟩:=id e;obtain⟨b,X,N,U⟩:=id M;unfold pyNext;refine Aa (wpAny_attempt (Bj (name:=Str.ofString "__next__") e.typeIs F.slot_dict_keyiterator_next (Bf F.slot_dict_keyiterator_next e.typeIs F.entry_dict_keyiterator_next ?_ (F.args_dict_keyiterator_next_1 _))));refine Aa (Ab ?_);refine Aa ?_;refine Aa ?_;refine Aa (wpAny_typeNameOfWhole_keyiter e.typeIs (Ab ?_));refine Aa (wpAny_fieldsOf Y m ?_);rw[show Builtin.Dict_items.ownsTuple "dict_keyiterator" = false by decide]
 show wpAny _ _ (if(Value.ref d==Value.none)=true then _ else _) _ _ s;rw[Ac (show ¬((Value.ref d==Value.none)=true) from Ai)]
 refine Aa (Ab ?_);refine Aa (wpAny_dictEntries X U ?_);rw[Ac (by simp)]
 refine Aa (Ab ?_);refine Aa (wpAny_dictEpoch X U ?_);rw[Ac (by simp)];refine Ab ?_
 simp only[show ¬((i:Int)<0) by lia,if_false,Ac8,Af hi]
 refine Aa ?_;refine Aa (wpAny_typeNameOfWhole_keyiter e.typeIs (Ab ?_));refine Aa (wpAny_isOneOf_keyiter e.typeIs ?_);show wpAny _ _ (setField (.ref it) 1 (rawInt ((i:Int)+1)) >>= _) _ _ s;refine Aa (wpAny_setField Y m (by simp) ?_)
 have z:(s.heap.update it (Obj.mapFields (·.setIfInBounds 1 (rawInt ((i:Int)+1))))).IsKeyIter it d (i+1) es.size ep:=⟨_,Bq _ Y (Obj.isFreed_of_fields (Obj.data_mapFields m _)),(Obj.cls_mapFields ..).trans J,by rw[Obj.data_mapFields m];simp[rawInt]⟩
 refine Aa (Bk (Aa (wpAny_isOneOf_keyiter (s:={s with heap:=s.heap.update it (Obj.mapFields (·.setIfInBounds 1 (rawInt ((i:Int)+1))))}) z.typeIs ?_)))
 show wpAny _ _ (pure es[i].key) _ _ _;exact Ab (Ab ⟨_,rfl,Ab (q _ z (Cp ..))⟩)
theorem bK2 (J:A.handled=none)(e:s.heap.IsKeyIter it d es.size es.size ep)(M:RawD s.heap d es ep)
  (q:∀h',Heap.ExtBut it s.heap h'->Q none {s with heap:=h'}):wpAny (model prog w) A (pyNext (.ref it)) Q E s:=by
 obtain⟨a,z,N,Y⟩:=id e;obtain⟨b,X,R,U⟩:=id M;unfold pyNext;refine Aa (wpAny_attempt (Bj (name:=Str.ofString "__next__") e.typeIs F.slot_dict_keyiterator_next (Bf F.slot_dict_keyiterator_next e.typeIs F.entry_dict_keyiterator_next ?_ (F.args_dict_keyiterator_next_1 _))));refine Aa (Ab ?_);refine Aa ?_;refine Aa ?_;refine Aa (wpAny_typeNameOfWhole_keyiter e.typeIs (Ab ?_));refine Aa (wpAny_fieldsOf z Y ?_);rw[show Builtin.Dict_items.ownsTuple "dict_keyiterator" = false by decide]
 show wpAny _ _ (if(Value.ref d==Value.none)=true then _ else _) _ _ s;rw[Ac (show ¬((Value.ref d==Value.none)=true) from Ai)]
 refine Aa (Ab ?_);refine Aa (wpAny_dictEntries X U ?_);rw[Ac (by simp)]
 refine Aa (Ab ?_);refine Aa (wpAny_dictEpoch X U ?_);rw[Ac (by simp)];refine Ab ?_
 simp only[show ¬((es.size:Int)<0) by lia,if_false,Ac8,Cb (Aa7 es.size)]
 refine Aa ?_;refine Aa (wpAny_typeNameOfWhole_keyiter e.typeIs (Ab ?_));show wpAny _ _ (setField (.ref it) 0 .none >>= _) _ _ s;refine Aa (wpAny_setField z Y (by simp) ?_)
 show wpAny _ _ (newExc (.type "StopIteration") [] >>= _) _ _ _;refine Aa ?_;simp only[newExc,newTuple]
 refine Aa (Be ?_ (by size_fits));refine Aa (m:=firstArgMember _ _) (wpAny_of_eq (a:=Value.none) (by first | rfl | (simp only[firstArgMember];rfl)) ?_)
 refine Be ?_ (by size_fits);simp only[raiseNew];refine Aa (wpAny_handled ?_);rw[show A.in1.handled=none from J]
 refine Aa (Ab (wpAny_throw ?_));refine Aa (wpAny_isInstance (T := "StopIteration") (b:=true) ⟨_,Ac3 _ rfl,rfl⟩ isSubtype_stop ?_);exact Ab (q _ (((Cp ..).extBut.push _).push _))
theorem cD9 (N:A.handled=none)(I d:Addr)(U:d≠I)(es:Array DictEntry)(ep:Nat):Walks prog w A I [I,d] [I] es.size (λi v=>∃e,es[i]? = some e/\v=e.key) (λi h=>h.IsKeyIter I d i es.size ep/\RawD h d es ep) where
 sub:=λb m=>by simp at m;simp[m]
 frame:=λ_ _ _ st J=>⟨st.1.at λo e=>J I (by simp) o e,st.2.kp λo e=>J d (by simp) o e⟩
 item:=λi s Q E hi st Y=>bC0 st.1 st.2 hi λX z M=>Y _ X s.toks ⟨es[i],by simp[hi],rfl⟩ ⟨z,st.2.kp λo e=>M.extBut d o U e⟩ λb o m e=>M.extBut b o (λh=>m (by simp[h])) e
 done:=λs Q E st Y=>bK2 N st.1 st.2 λX he=>Y X s.toks λb o m e=>he b o (λh=>m (by simp[h])) e
 self:=λ_ _ _ _ st Y=>wpAny_pyIter_keyiter st.1 Y
theorem cQ2 (lo:(d==sysModules)=false):KdlSrc prog w "dict" d d es.size (λi x=>∃e,es[i]? = some e/\x=e.key) (λh=>RawD h d es ep) where
 type:=λ_ z=>z.ty
 there:=λ_ z=>⟨z.lt,z.lt⟩
 keep:=λ_ _ z X=>z.kp λo e=>X d (.inr rfl) o e
 notList:=by decide
 notTuple:=by decide
 hint:=λ_ _ _ _ z m=>kdl_hint_dict z.ty m
 iter:=λ_ _ Y z=>⟨_,_,(λ_ _ m=>bA6 lo z m),cD9 Y _ d (Ab9 z.lt) es ep,⟨⟨_,Ac3 _ rfl,rfl,rfl⟩,z.kp λo e=>Aa6 _ e⟩⟩
end
end PySem
namespace L2
open PySem PySem.Spec PyProof.Rows PySem.W
section
variable {X:Cx}{aA:Eg}{σ:St}{H:Hp}{s:Shared}{a b:Addr}{kv:List (List Int×Addr×V)}
theorem KvR.refs (r:KvR kv xs):Vals (kv.map λx=>V.ref x.2.1) (xs.map λx=>Value.ref x.2.1):=by
 induction r with
 | nil=>exact .nil
 | cons a _ e=>exact .cons (show Value.ref _=Value.ref _ by rw[a.2.1]) e
def dE8 (K:Frag)(tk tv:TE):TE:=λσ H Q=>∀d,H d=none->tk σ (upd H d (dicO d [])) λx H1=>tv σ H1 λv H2=>∃b ks,x=.ref b/\SqT K H2 b (ks.map V.int)/\H2 d=some (dicO d [])/\Q (.ref d) (upd H2 d (dicO d [(ks,b,v)]))
theorem bE3 (K:Frag)(hr:Room k X.A)(hk:PE X ke tk)(hv:PE X ve tv)(h:X.K=K:=by rfl):PE X (.Dict [some ke] [ve] pos) (dE8 K tk tv):=by
 subst h;refine⟨?_⟩;intro aA s σ H Q I h;refine wpAny_Dict_any rfl rfl (by simp) (by simp) ?_
 have D:=I.laid (a:=s.heap.objs.size) (o:=dicO s.heap.objs.size []) (t':=s.toks) (λ_ _ q=>Aa6 {cls:=.type "dict",data:=.dict #[]} q) (Aa7 _)
  (aQ0 .nil (Ci _) (beq_eq_false_iff_ne.mpr (Ne.symm (Ab9 I.big'))) (Ac3 _ rfl) ⟨rfl,rfl,rfl⟩ rfl rfl List.nodup_nil)
 have h0:=h s.heap.objs.size (I.hok.fresh (Aa7 _))
 show wpAny _ _ (evalPairs [_]) _ _ _
 unfold evalPairs;refine Aa (thn (hk aA _ σ _ _ D h0) λkv s1 ⟨x,H1,F,rx,q1⟩=>?_)
 refine Aa (Bk (Aa (thn (hv aA s1 σ H1 _ F q1) λvv s2 ⟨v,H2,m,rv,b,ks,P,U,N,q⟩=>?_)))
 refine Aa (wpAny_standAt (Ab ?_));refine Aa (Bk ?_);refine Ab (Ab ?_);subst P;obtain rfl:kv=Value.ref b:=rx;unfold storeAll;rw[List.forIn_cons];obtain⟨xs,M,z,hd,B⟩:=bF3 m (.inl N) (λz hz=>by cases hz)
 cases M
 refine Aa (Aa (wpAny_dictSet_heap (show(tupleKind (intKind X.prog X.w)).room X.A from by have:=hr.un;show X.A.units<cLine;lia) (aB9 m U) B (λh' Y J=>?_) (Ci _)))
 refine Ab ?_;dsimp only;rw[List.forIn_nil];refine Ab ⟨.ref s.heap.objs.size,_,?_,rfl,q⟩;obtain⟨o,es,ep,R,h2,h3,h4,_,h5⟩:=Y;exact m.write (x:=s.heap.objs.size) (e:=s.heap.objs.size) (by rw[N];exact True.intro) (.inl rfl) (λc q U z=>(J.2 c U).trans z) ⟨o,R⟩ (aQ0 (.cons ⟨rfl,rfl,rv⟩ .nil) (by rw[Cu];show 1<=16777216;decide) hd R h2 h3 h4 h5)
end
end L2
namespace LV
open PySem L2
section
variable {K:Frag}{ρ:List Sl}{m:Bool}{td ta tb tv:TE}{d:PyData}{ks:List Int}{kvs:List (List Int×PyData)}{H:Hp}
theorem cS8 (r:KvF K H kv kvs):Reps K H (kv.map λx=>V.ref x.2.1) (kvs.map λx=>PyData.tuple (x.1.map PyData.int)):=by
 unfold KvF at r;induction r with
 | nil=>exact .nil
 | cons a _ e=>exact .cons (.tup a.2.1 (by rw[a.1];exact M0 _)) e
end
section
variable {K:Frag}{ρ:List Sl}{m:Bool}{td tk tv:TE}{ta:TA}{d:PyData}{ks:List Int}{kvs:List (List Int×PyData)}{H:Hp}
theorem aR6 (D:E K true tk ρ (.tuple (ks.map PyData.int)))(hv:E K true tv ρ d)(im:imm d=true):EFT K (dE8 K tk tv) ρ (.dic [(ks,d)]):=λS B σ H o I Q q p hp=>by
 have J:Same H (upd H p (dicO p [])):=D1 hp
 refine D S B σ _ o (I.grow J) _ λx H1 M rx=>hv S B σ H1 o ((I.grow J).grow M) _ λv Y N rv=>?_
 cases rx with
 | @tup b xs _ sq r=>
  have F:=Reps.ints r
  have s:Y p=some (dicO p []):=N _ _ (M _ _ B3)
  have U:SqT K Y b (ks.map V.int):=by rw[<- F];exact D3 N (D3 H9 sq)
  refine⟨b,ks,rfl,U,s,?_⟩;have R:Same H (upd Y p (dicO p [(ks,b,v)])):=λc y z=>by
   have hc:c≠p:=λe=>by rw[e,hp]at z;cases z
   rw[B0 hc];exact N _ _ (M _ _ (J _ _ z))
  have w:∀(a:Addr) (xs:List V),Rd Y a (.tup xs)->Rd (hid (λb=>C9 ρ o S b\/b∈[p]) (upd Y p (dicO p [(ks,b,v)]))) a (.tup xs):=λa ys z=>by
   have X:a≠p:=λe=>by
    subst e;rcases z with z | ⟨ob,z⟩
    .rw[s]at z;cases z
    .rw[s]at z;cases z
   have z2:Rd (upd Y p (dicO p [(ks,b,v)])) a (.tup ys):=by
    rcases z with z | ⟨ob,z⟩
    .exact .inl (by rw[B0 X];exact z)
    .exact .inr ⟨ob,by rw[B0 X];exact z⟩
   refine W7 (λc hc=>?_) z2
   rcases hc with hc | hc
   .obtain⟨u,P⟩:=I.lists c hc;exact⟨u,R _ _ P⟩
   .rw[Ad8.mp hc];exact⟨.x p [(ks,b,v)],B3⟩
  refine q (.ref p) [p] _ R (λc hc=>by rw[Ad8.mp hc];exact hp) (by simp) (.dic B3 rfl (.cons ?_ .nil) (.cons ?_ .nil))
  .exact .tup (U.imp (w _ _) id) (M0 ks)
  .exact bD7 w d im (aV8 aA3 d rv)
theorem dK6 (J:EX K t ρ j d ρ1)(X:G K true g d ρ1 ρ')(U:R.nx ρ'):W K (aL7 t g) ρ R:=λS B D σ H o I s=>
 J S B σ H o I _ λv w z Y _ _ _ _ r=>X.2 S B σ w z Y v r _ λM e=>s.nx _ M w z e U
end
open Att PyProof.Rows PySem.Calls PySem.Spec PySem.W
section
variable {prog:Program}{w:World}{A:Around}{E:Ef}{s:Shared}
theorem bF4 (hh:A.handled=none)(lo:(d==sysModules)=false)(hm:RawD s.heap d es ep)(hn:es.size<=sizeLine)
  (hQ:∀h' tk,s.heap.objs.size<=h'.objs.size->(∀b o,s.heap.get? b=some o->h'.get? b=some o)->Q (es.toList.map (·.key)) {s with heap:=h',toks:=tk}):wpAny (model prog w) A (collect (.ref d)) Q E s:=by
 unfold collect;refine Aa (wpAny_runValue (codeAny_builtin F.entry_proto_collect ?_));rw[Around.under_plainId F.plain_proto_collect _];show wpAny _ A.in1 (newList [] >>= λl=>again (.builtin "list.__iadd__" ⟨[l,.ref d],[]⟩)) _ _ s
 refine Aa (Be ?_);refine Ab ⟨plainId_quiet F.plain_list_iadd _,codeAny_builtin F.entry_list_iadd ?_⟩;rw[Around.under_plainId F.plain_list_iadd _];show wpAny _ A.in1 (Builtin.List.listExtendWith (.ref s.heap.objs.size) (.ref d) (.ref s.heap.objs.size)) _ _ _;have P:=hm.lt;have M:s.heap.objs.size≠d:=Nat.ne_of_gt P;have conv:∀(r:Result) (X:Shared),(r=.ok (.ret (.ref s.heap.objs.size))/\∃m U,X.heap.get? s.heap.objs.size=some {cls:=.type "list",dict:=none,data:=.seq m U,slots := #[]}/\m.toList=es.toList.map (·.key)/\Q (es.toList.map (·.key)) X)->(match r with
   | .ok (.ret v)=>wpAny (model prog w) A (match v with
    | .ref a=>do
     let o <- load a
     match o.data with
     | .seq xs _=>pure xs.toList
     | _=>unsupported "internal:collect"
    | _=>unsupported "internal:collect") Q E X
   | .ok _=>False
   | .error e=>E e X):=by
  rintro r X ⟨rfl,m,U,h1,N,D⟩;show wpAny _ A (load s.heap.objs.size >>= _) _ _ _;refine Aa (wpAny_load h1 (Ab ?_));rw[N];exact D
 refine wpAny_mono (kdl_extend (A:=A) (R:=λr X=>r=.ok (.ret (.ref s.heap.objs.size))/\∃m U,X.heap.get? s.heap.objs.size=some {cls:=.type "list",dict:=none,data:=.seq m U,slots := #[]}/\m.toList=es.toList.map (·.key)/\Q (es.toList.map (·.key)) X) (s:={s with heap:=s.heap.push {cls:=.type "list",data:=.seq ([]:List Value).toArray}}) (cQ2 (es:=es) (ep:=ep) lo) hh (hm.kp λo e=>Aa6 _ e) s.heap.objs.size M M (.ref s.heap.objs.size) 0 (Ac3 _ rfl) (λh' tk m U hk J Y=>?_) hn) (λfin X B=>?_) λe X he=>by obtain⟨z,_⟩:=he;cases z
 .have e:m.toList=es.toList.map (·.key):=by
   refine List.ext_getElem? λj=>?_
   rw[Cj,Aa9,Cj];by_cases hj:j<es.size
   .have h1:j<m.size:=by rw[Y.1];exact hj
    obtain⟨e,N,D⟩:=Y.2 j _ (Af h1);rw[Af h1,N,D];rfl
   .rw[Cb (by rw[Y.1];lia),Cb (by lia)];rfl
  exact⟨rfl,m,U,J,e,hQ _ _ (Cq (Ab3 J)) λb o he=>hk b o (Ab9 (Ab3 he)) (Aa6 _ he)⟩
 .cases fin with
  | done f=>exact conv _ _ B
  | again U=>exact⟨B.1,codeAny_mono B.2 λr s'' h=>conv r s'' h⟩
theorem bJ9 (hc:∀(Q':List Value->Shared->Prop) (E':Ef),(∀h' tk,s.heap.objs.size<=h'.objs.size->(∀b o,s.heap.get? b=some o->h'.get? b=some o)->Q' vs {s with heap:=h',toks:=tk})->wpAny (model prog w) A.in1 (collect (.ref l)) Q' E' s)
  (F:Fr h₀ L s.heap m) (N:News h₀ L s.heap news) (P:2<=vs.length) (U:vs.length<64)
  (h:∀D e1 h' tk,Fr h₀ L h' m->News h₀ L h' ((D,seqObj "list" #[] e1)::news)->(∀q∈news,q.1<D) ->
   wpAny (model prog w) A.in1.in1 (keyKind' vs.toArray) (λκ s'=>(kas_sort vs.length).kasWp (kas_ask prog w A.in1.in1 κ vs) (λp s''=>KasFin h₀ L m D e1 (p.toList.map λi=>vs.getD i Value.none) (λs3=>Q (.ref D) s3) s'') s') (λ_ _=>False) {s with heap:=h',toks:=tk}) :
  wpAny (model prog w) A (call (.builtin "sorted") [.ref l]) Q E s:=by
 refine Calls.call_function_entry kind_sorted plain_sorted entry_sorted (args_sorted1 _) ?_;unfold Builtin.«sorted»;refine Aa (m:=checkCount "sorted" 1 1 _) (Ab ?_);refine Aa (hc _ _ λg tk e X=>?_)
 refine Aa (wpAny_newList ?_ (by rw[Cu];lia))
 have Y:(g.push (seqObj "list" vs.toArray 0)).get? g.objs.size=some (seqObj "list" vs.toArray 0):=Ac3 _ rfl
 have keep:∀b o,s.heap.get? b=some o->(g.push (seqObj "list" vs.toArray 0)).get? b=some o:=λb o q=>Aa6 _ (X b o q)
 have hL:L<s.heap.objs.size:=F.ns.lt
 have z:L<g.objs.size:=Ab8 hL e
 refine Aa (Bk (Bf slot_list_sort ⟨_,Y,rfl⟩ entry_list_sort ?body (args_list_sort _)))
 case body=>
  refine kat_list_sort (s:={s with heap:=g.push (seqObj "list" vs.toArray 0),toks:=tk})
   (F.kept keep) (N.grown keep) Y (Nat.ne_of_gt z) (Heap.get?_none_of_le (Bi F.above (Cq z)))
   (λp hp=>Ab9 (Ab8 (Ab3 (N p hp).1) e)) P U λe1 h' R B=>?_
  refine wpAny_mono (h _ e1 h' tk R B λq M=>Ab8 (Ab3 (N q M).1) e) (λκ s' X=>?_) λ_ _ x=>x
  rw[kat_ask_eq rfl]at X ⊢;exact kas_wp_mono X λp s'' J=>J.mono λs3 M=>⟨_,rfl,Ab ⟨_,rfl,M⟩⟩
theorem aJ6 (hc:∀(Q':List Value->Shared->Prop) (E':Ef),(∀h' tk,s.heap.objs.size<=h'.objs.size->(∀b o,s.heap.get? b=some o->h'.get? b=some o)->Q' vs {s with heap:=h',toks:=tk})->wpAny (model prog w) A.in1 (collect (.ref l)) Q' E' s)
  (hL:s.heap.Ns L m) (ht:TupsAt s.heap vs ts) (J:∀a,Value.ref a∈vs->a≠L) (h2:2<=vs.length) (h64:vs.length<64)
  (h:∀h' tk D (p:List Nat) c,h'.Ns L m->(∀b o,b≠L->s.heap.get? b=some o->h'.get? b=some o)->s.heap.get? D=none->h'.get? D=some {cls:=.type "list",data:=.seq (p.map λi=>vs.getD i .none).toArray c}->p.Perm (List.range vs.length)->(p.map λi=>ts.getD i []).Pairwise E8->Q (.ref D) {s with heap:=h',toks:=tk}) :
  wpAny (model prog w) A (call (.builtin "sorted") [.ref l]) Q E s:=by
 have hlen:=ht.length
 refine bJ9 hc (cO7 hL) bM8 h2 h64 λD e1 h' tk F' N' hD=>?_
 have kp:∀b o,b≠L->s.heap.get? b=some o->h'.get? b=some o:=λb o hb e=>(N' (b,o) (Ad4 _ (P7 hb (O9 _ _) e))).1
 have DL:D≠L:=(N' _ Aj).2.1
 have hDs:s.heap.get? D=none:=by
  cases e:s.heap.get? D with
  | none=>rfl
  | some o=>exact absurd (hD (D,o) (P7 DL (O9 _ _) e)) (Ad9 _)
 have Y:TupsAt h' vs ts:=ht.keep λa its ha ⟨o,e,r⟩=>⟨o,kp a o (J a ha) e,r⟩
 obtain⟨fs,k1,k2,k3⟩:=Y.kat;refine kat_kind (s:={s with heap:=h',toks:=tk}) k1 (by lia) (T:=.type "int") (λv hv=>?_) (by decide) ?_
 .obtain⟨i,t,rfl⟩:=k3 v hv;exact λA Q E s _ q=>wpAny_of_eq (show typeOf (Value.int i t)=pure (.type "int") from rfl) q
 have et:(Value.type "int" != Value.type "tuple")=true:=by decide
 rw[et];obtain⟨F,e0,hp,hs,ha⟩:=LS.bW4 (cB0 λi=>ts.getD i []) (N:=vs.length) (by lia)
 refine LS.cN7 (P:=λi=>i<vs.length) (lt:=λi j=>HT.X1 (ts.getD i []) (ts.getD j [])) (λi j C hi hj hC=>?_) _ ha ?_
 .obtain⟨a,its,e,⟨o,h1,c1,n1,d1⟩,r1⟩:=Y.get (i:=i) (by lia)
  obtain⟨a',R,e',⟨o',h1',c1',n1',d1'⟩,B⟩:=Y.get (i:=j) (by lia)
  unfold kas_ask;rw[e,e'];refine kat_lt (s:={s with heap:=h',toks:=tk}) h1 d1 h1' d1' ?_
  have el:decide (its.size<R.size)=decide ((ts.getD i []).length<(ts.getD j []).length):=by
   have a1:=r1.length;have a2:=B.length
   simp only[Am]at a1 a2;rw[a1,a2]
  rw[el];exact v9 0 r1 B hC
 .rw[e0];refine KasFin.intro F' N' (.head λp hp z=>?_) λU c F'' X=>?_
  .have:=hD p hp
   rw[z]at this;exact absurd this (Ad9 _)
  .have kp2:∀b o,b≠L->s.heap.get? b=some o->U.get? b=some o:=λb o hb e=>(X (b,o) (Ad4 _ (P7 hb (O9 _ _) e))).1
   have M:F.toList.Perm (List.range vs.length):=by simpa using(Array.perm_iff_toList_perm.mp hp)
   refine h U tk D F.toList c F''.ns kp2 hDs (X _ Aj).1 M ?_;rw[Ae0,List.pairwise_iff_getElem];intro i j hi hj hij;have hz:F.toList.length=vs.length:=by rw[M.length_eq];simp
   have:=hs i j (Cq hij) (by lia)
   unfold LS.le at this;rw[LS.aP6,LS.aP6]at this;have hi':i<F.size:=by simpa using hi
   have hj':j<F.size:=by simpa using hj
   simp only[Af hi',Af hj',Option.getD_some]at this;unfold E8;simpa using this
end
section
variable {X:Cx}
def rSK (K:Frag):List V->Hp->VK->Prop:=λxs H Q=>∃(p:Addr) (kv:List (List Int×Addr×V)),xs=[.ref p]/\Rd H p (dicO p kv)/\aZ1 K H kv/\(∀x∈kv,x.1≠[])/\2<=kv.length/\kv.length<64 /\
  ∀a (q:List Nat),H a=none->q.Perm (List.range kv.length)->(q.map λi=>(kv.map (·.1)).getD i []).Pairwise E8->Q (.ref a) (upd H a (.lst (q.map λi=>(kv.map λx=>V.ref x.2.1).getD i .non)))
theorem aU7 {K:Frag}{H:Hp}:∀{kv:List (List Int×Addr×V)},aZ1 K H kv->(∀x∈kv,x.1≠[])->TupsV K H (kv.map λx=>V.ref x.2.1) (kv.map (·.1))
 | [],_,_=>trivial
 | x::kv,h,hn=>⟨⟨x.2.1,rfl,h x (by simp),hn x (by simp)⟩,aU7 (λz e=>h z (by simp[e])) λz e=>hn z (by simp[e])⟩
theorem bU0 (K:Frag)(hc:X.calm=true)(h:X.K=K:=by rfl):P6 X (.builtin "sorted") (rSK K):=by
 subst h;intro aA s σ H xs us Q I r ⟨p,kv,e,hq,hk,hn,h2,h64,q⟩;subst e;obtain⟨u,rfl,rx⟩:=T1 r;cases rx;obtain⟨xs,es,ep,rr,z,hd,M,F,_⟩:=dI2 I hq;have hz:=aT2 rr F;have N:Vals (kv.map λx=>V.ref x.2.1) (es.toList.map (·.key)):=by
  rw[F,Ae2];exact KvR.refs rr
 have w:=N.length
 rw[Aa3]at w;obtain⟨m,B,_⟩:=I.loc;obtain⟨ta,tl⟩:=aP7 I (aU7 hk hn) N;refine aJ6 (λQ' E' J=>bF4 (by have:=I.ok.hd hc;simp[this]) hd M (by rw[hz];exact z) J) B ta tl (by lia) (by lia) λh' tk D P c Y kp hD el hp hs=>?_
 have U:∀i∈P,i<(kv.map λx=>V.ref x.2.1).length:=λi hi=>by have:=Ab5.mp (hp.mem_iff.mp hi);rw[Aa3];lia
 have R:=aB7 N U
 obtain⟨HD,I'⟩:=aD9 I B Y kp hD el R (by rw[Aa3,hp.length_eq,Bs];lia)
 exact⟨.ref D,_,I'.tok tk,rfl,q D P HD (by rw[w];exact hp) hs⟩
end
end LV
namespace LV
open PySem L2 PyProof.Rows
section
variable {K:Frag}{ρ:List Sl}{m:Bool}{td:TE}
theorem cK4 {kvs:List (List Int×PyData)}{ss:List (List Int)}(h:E K false td ρ (.dict (J8 kvs)))(X:∀x∈kvs,x.1≠[])(z:2<=kvs.length)(R:kvs.length<64)(hp:ss.Perm (kvs.map (·.1)))(B:ss.Pairwise E8) :
  EF K (tCB (rSK K) (G1 td V7)) ρ (ss.map tI):=
 cN9 (ds:=[.dict (J8 kvs)]) (A1 h A5) (e7 l8 ss) λH vs Q r q=>by
  cases r with
  | cons a b=>
   cases b
   obtain⟨p,kv,rfl,e,k⟩:=aR1 a;have Y:=k.keys;have hl:kv.length=kvs.length:=by have:=congrArg List.length Y;simpa using this
   have r:=cS8 k
   have M:(kvs.map λx=>PyData.tuple (x.1.map PyData.int))=(kvs.map (·.1)).map tI:=by rw[Ae2];rfl
   rw[M]at r;refine⟨p,kv,rfl,e,k.keyR,λx P=>?_,by lia,by lia,λa s h1 z U=>q a _ h1 ?_⟩
   .have:x.1∈kvs.map (·.1):=by rw[<- Y];exact List.mem_map_of_mem P
    obtain⟨y,hy,e⟩:=Aa8.mp this;rw[<- e];exact X y hy
   .rw[Y]at U;have F:(kv.map λx=>V.ref x.2.1).length=kv.length:=Aa3 ..
    have e:(s.map λi=>(kvs.map (·.1)).getD i [])=ss:=by
     have w:(s.map λi=>(kvs.map (·.1)).getD i []).Perm (kvs.map (·.1)):=by
      have J:(s.map λi=>(kvs.map (·.1)).getD i []).Perm ((List.range kv.length).map λi=>(kvs.map (·.1)).getD i []):=z.map _
      have N:(List.range kv.length).map (λi=>(kvs.map (·.1)).getD i [])=kvs.map (·.1):=by
       refine List.ext_getElem? λj=>?_
       by_cases D:j<kv.length
       .rw[O3 D];simp[List.getD,Aa2 (show j<kvs.length by lia)]
       .rw[Ad6 (by simp;lia),Ad6 (by simp;lia)]
      rw[N]at J;exact J
     exact List.Perm.eq_of_pairwise (le:=E8) (λa b _ _ h1 z=>u6 a b h1 z) U B (w.trans hp.symm)
    have:=aM6 r (q:=s) λi hi=>by
     have:=Ab5.mp (z.mem_iff.mp hi)
     rw[Aa3];exact this
    rw[e]at this;exact this
end
end LV
namespace PySem
open Sem (wp)
namespace F
end F
end PySem
namespace PySem
open Sem (wp)
end PySem
namespace LV
open PySem PySem.Spec PyProof.Rows L2
end LV
namespace L2
open PySem PySem.Spec PyProof.Rows
end L2
namespace LV
open PySem PySem.Spec PyProof.Rows L2
end LV
set_option maxHeartbeats 1000000
namespace K34
open PySem L2 LV PyProof.Rows
theorem Q1:C1 ["_law_outs", "_law_pairs", "_law_v", "_law_place"] ["_law_outs"] (B2 Z3):={}
def cQ6 (ds:List PyData)(d:PyData):Prop:=∃(m:Nat) (dr tr:List (List Nat)),Dw m dr tr/\ds=[.tuple (tr.map tN)]/\d=.tuple ((sp (arr tr)).map pD)
theorem aE3 (ps:List (Int×Int)):Fit (.tuple (ps.map pD)):=(bK3 (n:=1) λd e=>by obtain⟨x,_,rfl⟩:=Aa8.mp e;exact R5 x).fit
structure AI (dr:List (List Nat))(ps:List (Int×Int)):Prop where
 nd:ps.Nodup
 len:ps.length<=21
 lo:∀x∈ps,3<=x.1/\x.1<(dr.length:Int)/\0<=x.2/\x.2<(dr.length:Int)
 tie:∀x∈ps,td dr x.1 x.2=true
 anti:∀x∈ps,(x.2,x.1)∉ps
 out:∀b:Int,(ps.filter λx=>decide (x.1=b)).length<=3
theorem AI.perm (h:AI dr ps)(p:qs.Perm ps):AI dr qs:=
 ⟨p.nodup_iff.mpr h.nd,by rw[p.length_eq];exact h.len,λx e=>h.lo x (p.mem_iff.mp e),λx e=>h.tie x (p.mem_iff.mp e),λx e w=>h.anti x (p.mem_iff.mp e) (p.mem_iff.mp w),λb=>by rw[(p.filter _).length_eq];exact h.out b⟩
theorem cY1 (h:a.Perm b):U0 a=U0 b:=
 List.Perm.eq_of_pairwise (le:=E8) (λx y _ _ h1 e=>u6 x y h1 e) (S0 a) (S0 b) (((E1 a).trans h).trans (E1 b).symm)
theorem dE0 (h:a.Perm b):sp a=sp b:=by unfold sp;rw[cY1 (h.map toL)]
def rl1 (ps:List (Int×Int))(x:Int×Int):List (List Int):=ps.filterMap λy=>if y.1=x.2/\(y.2,x.1)∈ps/\x.1<x.2/\x.1<y.2 then some [x.1,x.2,y.2] else none
def rgL (ps:List (Int×Int)):List (List Int):=ga (λi=>rl1 ps (gp ps i)) ps.length
theorem bH1 {α:Type}{g g':Nat->List α}:∀{n:Nat},(∀i,i<n->(g i).Perm (g' i))->(ga g n).Perm (ga g' n)
 | 0,_=>by simp[ga]
 | n+1,h=>by rw[X5,X5];exact(bH1 λi hi=>h i (by lia)).append (h n (by lia))
theorem rl1_mem:v∈rl1 ps x↔∃c,v=[x.1,x.2,c]/\(x.2,c)∈ps/\(c,x.1)∈ps/\x.1<x.2/\x.1<c:=by
 unfold rl1;rw[List.mem_filterMap];constructor
 .rintro⟨y,m,e⟩;split at e
  .rename_i h;obtain⟨h1,w,z,s⟩:=h;refine⟨y.2,(Ab4 e).symm,?_,w,z,s⟩;rw[<- h1];exact m
  .cases e
 .rintro⟨c,rfl,h1,w,z,s⟩;exact⟨(x.2,c),h1,Ae ⟨rfl,w,z,s⟩⟩
theorem dK9 (Y:ps.Nodup)(x:Int×Int):(rl1 ps x).Nodup:=by
 unfold rl1;refine List.Pairwise.filterMap _ (λa b w u z v s e=>?_) Y
 split at z
 .split at s
  .rename_i h1 m;rw[<- Ab4 z,<- Ab4 s]at e;simp at e;exact w (Prod.ext (by rw[h1.1,m.1]) e)
  .cases s
 .cases z
theorem cZ3 (h:AI dr ps)(x:Int×Int):(rl1 ps x).length<=3:=by
 have e:rl1 ps x=(ps.filter λy=>decide (y.1=x.2)).filterMap λy=>if y.1=x.2/\(y.2,x.1)∈ps/\x.1<x.2/\x.1<y.2 then some [x.1,x.2,y.2] else none:=by
  unfold rl1;rw[List.filterMap_filter];refine R3 λy _=>?_
  by_cases h:y.1=x.2 <;> simp[h]
 rw[e];exact Bi (List.length_filterMap_le _ _) (h.out _)
theorem cK0 (h:AI dr ps)(hi:i<=ps.length):(ga (λi=>rl1 ps (gp ps i)) i).length<=3*i:=by
 induction i with
 | zero=>simp[ga]
 | succ i e=>rw[X5,Ab7];have:=e (by lia);have:=cZ3 h (gp ps i);lia
theorem bW8 (h:AI dr ps):(rgL ps).length<64:=by
 have:=cK0 h (Aa7 ps.length);have:=h.len;unfold rgL;lia
theorem rgL_mem:v∈rgL ps↔∃a b c,v=[a,b,c]/\(a,b)∈ps/\(b,c)∈ps/\(c,a)∈ps/\a<b/\a<c:=by
 unfold rgL;rw[ga_mem];constructor
 .rintro⟨i,hi,h⟩;obtain⟨c,e,h1,w,z,s⟩:=rl1_mem.mp h;exact⟨_,_,c,e,Aw (bW6 hi),h1,w,z,s⟩
 .rintro⟨a,b,c,rfl,h1,w,z,s,Y⟩;obtain⟨i,hi,e⟩:=List.mem_iff_getElem.mp h1;refine⟨i,hi,rl1_mem.mpr ?_⟩;have m:gp ps i=(a,b):=by
   have:=bW6 hi
   rw[Aa2 hi,e]at this;exact(Ab4 this).symm
  rw[m];exact⟨c,rfl,w,z,s,Y⟩
def sw (x:Int×Int):Int×Int:=(x.2,x.1)
def tw (ps W:List (Int×Int)):List (Int×Int):=ps.filter (λp=>decide (p∉W))++W.map sw
theorem dA5 {ps W W':List (Int×Int)}(h:W.Perm W'):(tw ps W).Perm (tw ps W'):=by
 unfold tw
 have:(λp:Int×Int=>decide (p∉W))=λp=>decide (p∉W'):=by funext p;rw[Dk];rw[h.mem_iff]
 rw[this];exact(List.Perm.refl _).append (h.map sw)
theorem AI.ne {dr:List (List Nat)}{ps:List (Int×Int)}(h:AI dr ps){p q:Int}(w:(p,q)∈ps):p≠q:=λe=>by
 subst e;exact h.anti _ w w
theorem dG6 (h:AI dr ps)(s:∀w∈wys x y z,w∈ps):(wys x y z).Nodup:=by
 have h1:=h.ne (s (z,x) (by simp[wys]))
 have m:=h.ne (s (x,y) (by simp[wys]))
 have Y:=h.ne (s (y,z) (by simp[wys]))
 simp only[wys,Aa5,Aa1,Ac2,or_false,not_or,Dr,not_false_eq_true,List.nodup_nil,and_true];refine⟨⟨λe=>h1 e.1,λe=>h1 ?_⟩,λe=>m e.1⟩
 exact absurd e.1.symm Y
theorem dL4 (w:Dw m dr tr)(h:td dr p q=true)(s:0<=q/\q<(dr.length:Int)):td dr q p=true:=by
 unfold td at h ⊢;simp only[Ba,Ay]at h ⊢;obtain⟨⟨h1,X⟩,z⟩:=h;obtain⟨u,Y,e⟩:=Aa8.mp z;refine⟨s,Aa8.mpr ⟨p.toNat,?_,by lia⟩⟩
 obtain⟨_,F,G,f,B⟩:=w
 have:=B.good.sym Y
 rw[show q.toNat=u by lia];exact this
theorem AI.turn (F:Dw m dr tr)(h:AI dr ps)(X:∀w∈wys x y z,w∈ps):AI dr (tw ps (wys x y z)):=by
 have D:=dG6 h X
 have m1:=X (z,x) (by simp[wys])
 have m2:=X (x,y) (by simp[wys])
 have m3:=X (y,z) (by simp[wys])
 have Y:∀{p q:Int},(p,q)∈(wys x y z).map sw->(q,p)∈wys x y z:=λ{p q} J=>by
  obtain⟨⟨u,v⟩,hu,e⟩:=Aa8.mp J;unfold sw at e;cases e;exact hu
 have s:∀{u:Int×Int},u∈ps.filter (λp=>decide (p∉wys x y z))↔u∈ps/\u∉wys x y z:=λ{u}=>by simp[Au]
 have Q:((wys x y z).map sw).Nodup:=by
  rw[Ac6,Ae0];refine D.imp λ{a b} R e=>R ?_
  unfold sw at e;simp only[Dr]at e;exact Prod.ext e.2 e.1
 have U:∀(b:Int),((wys x y z).filter (λu=>decide (u.1=b))).length+((ps.filter (λp=>decide (p∉wys x y z))).filter (λu=>decide (u.1=b))).length<=(ps.filter (λu=>decide (u.1=b))).length:=λb=>by
  rw[<- Ab7];refine bW3 (Aa4.mpr ⟨List.Pairwise.filter _ D,List.Pairwise.filter _ (List.Pairwise.filter _ h.nd),λu hu v M e=>?_⟩) λu hu=>?_
  .subst e;exact(s.mp (Au.mp M).1).2 (Au.mp hu).1
  .rcases Aa0.mp hu with hu | hu
   .exact Au.mpr ⟨X u (Au.mp hu).1,(Au.mp hu).2⟩
   .exact Au.mpr ⟨(s.mp (Au.mp hu).1).1,(Au.mp hu).2⟩
 have N:∀b:Int,(((wys x y z).map sw).filter (λu=>decide (u.1=b))).length=((wys x y z).filter (λu=>decide (u.1=b))).length:=λb=>by
  unfold wys sw;simp only[Ac7,Cs,List.filter_cons,List.filter_nil,Ay];by_cases B:z=b <;> by_cases P:x=b <;> by_cases e3:y=b <;> simp[B,P,e3]
 refine⟨?_,?_,λu hu=>?_,λu hu=>?_,λu hu hn=>?_,λb=>?_⟩
 .refine Aa4.mpr ⟨List.Pairwise.filter _ h.nd,Q,λu hu v M e=>?_⟩
  subst e;obtain⟨p,q⟩:=u;exact h.anti _ (X _ (Y M)) (s.mp hu).1
 .unfold tw;rw[Ab7,Aa3]
  have:((wys x y z)++ps.filter (λp=>decide (p∉wys x y z))).length<=ps.length:=bW3 (Aa4.mpr ⟨D,List.Pairwise.filter _ h.nd,λu hu v M e=>by subst e;exact(s.mp M).2 hu⟩) λu hu=>(Aa0.mp hu).elim (X u) λhu=>(s.mp hu).1
  rw[Ab7]at this
  have:=h.len;lia
 .rcases Aa0.mp hu with hu | hu
  .exact h.lo u (s.mp hu).1
  .obtain⟨p,q⟩:=u;have J:=Y hu;have l1:=h.lo _ m1;have l2:=h.lo _ m2;have l3:=h.lo _ m3;simp only[wys,Aa1,Ac2,or_false,Dr]at J;dsimp only at l1 l2 l3 ⊢
   lia
 .rcases Aa0.mp hu with hu | hu
  .exact h.tie u (s.mp hu).1
  .obtain⟨p,q⟩:=u;have J:=X _ (Y hu);exact dL4 F (h.tie _ J) ⟨(h.lo _ J).2.2.1,(h.lo _ J).2.2.2⟩
 .obtain⟨p,q⟩:=u;rcases Aa0.mp hu with hu | hu
  .rcases Aa0.mp hn with hn | hn
   .exact h.anti _ (s.mp hu).1 (s.mp hn).1
   .exact(s.mp hu).2 (Y hn)
  .rcases Aa0.mp hn with hn | hn
   .exact(s.mp hn).2 (Y hu)
   .exact h.anti _ (X _ (Y hu)) (X _ (Y hn))
 .unfold tw;rw[Dv,Ab7,N b]
  have:=U b;have:=h.out b;lia
theorem bK5 {α:Type}{g:Nat->List α}:∀{n:Nat},(∀i,i<n->(g i).Nodup)->(∀i j,i<j->j<n->∀x∈g i,x∉g j)->(ga g n).Nodup
 | 0,_,_=>by simp[ga]
 | n+1,h1,h2=>by
  rw[X5];refine Aa4.mpr ⟨bK5 (λi hi=>h1 i (by lia)) (λi j w m=>h2 i j w (by lia)),h1 n (by lia),λx z y s e=>?_⟩
  subst e;obtain⟨i,hi,z⟩:=ga_mem.mp z;exact h2 i n hi (by lia) x z s
theorem bE8 (e:Dw m dr tr)(z:v<m):ga1 tr v=[(3+(v:Int),(TT.og tr 0 (v+3):Int)),(3+(v:Int),(TT.og tr 1 (v+3):Int)),(3+(v:Int),(TT.og tr 2 (v+3):Int))]:=by
 obtain⟨r,h1,w⟩:=e.t3 z;unfold ga1 TT.og;rw[Ac0,show v+3-3=v by lia,h1]
 match r,w with
 | [a,b,c],_=>rfl
theorem aQ1 (z:Dw m dr tr)(h:x∈arr tr):∃v c,v<m/\c<3/\x=(((v+3:Nat):Int),(TT.og tr c (v+3):Int)):=by
 obtain⟨v,e,w⟩:=ga_mem.mp h;rw[z.tl]at e;rw[bE8 z e]at w;simp only[Aa1,Ac2,or_false]at w;rcases w with rfl | rfl | rfl
 .exact⟨v,0,e,by lia,by rw[show((v+3:Nat):Int)=3+(v:Int) by lia]⟩
 .exact⟨v,1,e,by lia,by rw[show((v+3:Nat):Int)=3+(v:Int) by lia]⟩
 .exact⟨v,2,e,by lia,by rw[show((v+3:Nat):Int)=3+(v:Int) by lia]⟩
theorem bU9 {F G:Nat->Nat}{m:Nat}{f:Nat->Nat}{d t:List (List Nat)}(B:TT.Bt F G m f d t){p:Nat}(U:3<=p)(hp:p<m+3):(TT.og t 0 p≠TT.og t 1 p/\TT.og t 0 p≠TT.og t 2 p/\TT.og t 1 p≠TT.og t 2 p)/\∀i j,i<3->j<3->3<=TT.og t i p->TT.og t i p<m+3->TT.og t j (TT.og t i p)≠p:=by
 obtain⟨a,b,c,R⟩:=B.ring U hp;have X:=R.nd;simp only[Aa5,Aa4,Aa0,Aa1,not_or]at X;obtain⟨⟨J,Q,D,P,n5⟩,n6,⟨⟨n7,n8,n9⟩,M,⟨s,N⟩,Y⟩,w⟩:=X;refine⟨⟨Q,P,n8⟩,λi j hi hj h z e=>?_⟩
 have hm:TT.og t i p∈a\/TT.og t i p∈b\/TT.og t i p∈c:=by
  rcases (show j=0\/j=1\/j=2 by lia) with rfl | rfl | rfl
  .exact .inr (.inl (R.kb _ h z e))
  .exact .inr (.inr (R.kc _ h z e))
  .exact .inl (R.ka _ h z e)
 rcases (show i=0\/i=1\/i=2 by lia) with rfl | rfl | rfl
 .rcases hm with hm | hm | hm
  .exact J hm
  .exact D hm
  .exact n5 hm
 .rcases hm with hm | hm | hm
  .exact w _ hm _ (.inl rfl) rfl
  .exact n7 hm
  .exact n9 hm
 .rcases hm with hm | hm | hm
  .exact w _ hm _ (.inr (.inr (.inl rfl))) rfl
  .exact Y _ hm _ (.inl rfl) rfl
  .exact s hm
theorem dN2 (z:Dw m dr tr):AI dr (arr tr):=by
 have tl:=z.tl
 have m7:=z.m7
 have D:=z.len
 obtain⟨F,G,f,B⟩:=z.bt;have fs:∀i,i<m->∀x∈ga1 tr i,x.1=3+(i:Int):=λi hi x w=>by
  rw[bE8 z hi]at w;simp only[Aa1,Ac2,or_false]at w;rcases w with rfl | rfl | rfl <;> rfl
 refine⟨?_,?_,λx w=>?_,λx w=>?_,λx w P=>?_,λb=>?_⟩
 .unfold arr;rw[tl];refine bK5 (λi hi=>?_) λi j hij hj x w hy=>?_
  .rw[bE8 z hi];obtain⟨⟨h1,h2,Y⟩,_⟩:=bU9 B (p:=i+3) (by lia) (by lia)
   simp only[Aa5,Aa1,Ac2,or_false,not_or,Dr,not_false_eq_true,List.nodup_nil,and_true,true_and]
   lia
  .have h1:=fs i (by lia) x w
   have h2:=fs j hj x hy
   lia
 .have:=bH5 z (i:=tr.length) (Aa7 _)
  unfold arr;lia
 .obtain⟨v,c,hv,s,rfl⟩:=aQ1 z w
  have:=(B.out_mem s (show 3<=v+3 by lia) (by lia)).2
  rw[D];refine⟨?_,?_,?_,?_⟩ <;> (dsimp only;lia)
 .obtain⟨v,c,hv,s,rfl⟩:=aQ1 z w
  have:=(B.out_mem s (show 3<=v+3 by lia) (by lia)).1
  unfold td;simp only[Ba,Ay];exact⟨⟨by lia,by rw[D];lia⟩,Aa8.mpr ⟨_,by rw[Ac8];exact this,rfl⟩⟩
 .obtain⟨v,c,hv,s,rfl⟩:=aQ1 z w;obtain⟨u,M,hu,U,e⟩:=aQ1 z P;simp only[Dr]at e;obtain⟨Q,e2⟩:=e;have Q:TT.og tr c (v+3)=u+3:=by lia
  have e2:v+3=TT.og tr M (u+3):=by lia
  exact(bU9 B (p:=v+3) (by lia) (by lia)).2 c M s U (by lia) (by lia) (by rw[Q];lia)
 .have J:∀n,n<=m->((ga (ga1 tr) n).filter λx=>decide (x.1=b)).length<=if b<3+(n:Int) then 3 else 0:=by
   intro n;induction n with
   | zero=>intro _;simp[ga]
   | succ n X=>
    intro P;have X:=X (by lia)
    rw[X5,Dv,Ab7];have Y:((ga1 tr n).filter λx=>decide (x.1=b)).length<=if 3+(n:Int)=b then 3 else 0:=by
     by_cases e:3+(n:Int)=b
     .rw[Ae e];refine Bi (List.length_filter_le _ _) ?_;rw[bE8 z (by lia)];exact Aa7 _
     .rw[Ac e,List.filter_eq_nil_iff.mpr λx w=>by rw[fs n (by lia) x w];simpa using e]
      exact Aa7 _
    by_cases N:b<3+(n:Int)
    .rw[Ae N]at X;rw[Ac (by lia)]at Y
     rw[Ae (by lia)];lia
    .rw[Ac N]at X;by_cases R:3+(n:Int)=b
     .rw[Ae R]at Y;rw[Ae (by lia)];lia
     .rw[Ac R]at Y;lia
  have:=J m (Aa7 _)
  unfold arr;rw[tl];split at this <;> lia
theorem dT9 {l:List (List Int)}(h:∀v∈l,v.length=3):∀v∈l,v≠[]:=λv w e=>by have:=h v w;rw[e]at this;cases this
theorem dU1:∀v∈rgL ps,v.length=3:=λv e=>by obtain⟨a,b,c,rfl,_⟩:=rgL_mem.mp e;rfl
theorem dC9 (h:(ps.map pD)[i]? = some d):d=pD (gp ps i)/\i<ps.length:=by
 rw[Aa9]at h;obtain⟨x,e,rfl⟩:=Ap.mp h;have hi:=(Ab0.mp e).1;rw[bW6 hi]at e;exact⟨by rw[Ab4 e],hi⟩
theorem dA4 (h:j<ps.length):ps.take (j+1)=ps.take j++[gp ps j]:=by rw[Dm,bW6 h];rfl
def rB (ps:List (Int×Int))(x y:Int×Int):Option (List Int):=if y.2=x.1/\(x.2,y.1)∈ps/\x.1<x.2/\x.1<y.1 then some [x.1,x.2,y.1] else none
def rlB (ps:List (Int×Int))(x:Int×Int):List (List Int):=ps.filterMap (rB ps x)
def rgB (ps:List (Int×Int)):List (List Int):=ga (λi=>rlB ps (gp ps i)) ps.length
theorem cX3:v∈rlB ps x↔∃c,v=[x.1,x.2,c]/\(x.2,c)∈ps/\(c,x.1)∈ps/\x.1<x.2/\x.1<c:=by
 unfold rlB rB;rw[List.mem_filterMap];constructor
 .rintro⟨y,m,e⟩;split at e
  .rename_i h;obtain⟨h1,w,z,s⟩:=h;refine⟨y.1,(Ab4 e).symm,w,?_,z,s⟩;rw[<- h1];exact m
  .cases e
 .rintro⟨c,rfl,h1,w,z,s⟩;exact⟨(c,x.1),w,Ae ⟨rfl,h1,z,s⟩⟩
theorem dN0 (Y:ps.Nodup)(x:Int×Int):(rlB ps x).Nodup:=by
 unfold rlB rB;refine List.Pairwise.filterMap _ (λa b w u z v s e=>?_) Y
 split at z
 .split at s
  .rename_i h1 m;rw[<- Ab4 z,<- Ab4 s]at e;simp at e;exact w (Prod.ext e (by rw[h1.1,m.1]))
  .cases s
 .cases z
theorem bJ4 (e:ps.Nodup)(x:Int×Int):(rlB ps x).Perm (rl1 ps x):=(List.perm_ext_iff_of_nodup (dN0 e _) (dK9 e _)).mpr λv=>by rw[cX3,rl1_mem]
theorem aW2 (e:ps.Nodup):(rgB ps).Perm (rgL ps):=bH1 λi hi=>bJ4 e _
theorem dL1 {dr:List (List Nat)}{ps:List (Int×Int)}(h:AI dr ps){i:Nat}(hi:i<=ps.length):(ga (λi=>rlB ps (gp ps i)) i).length<=3*i:=by
 rw[(bH1 λj e=>bJ4 h.nd _).length_eq]
 exact cK0 h hi
def cJ5 (ds es:List PyData):Prop:=∃(dr:List (List Nat)) (ps:List (Int×Int)),AI dr ps/\ds=[.tuple (ps.map pD)]/\es=(U0 (rgL ps)).map tI
theorem F1:C1 ["_law_arrows_here", "_law_found", "_law_p", "_law_q", "_law_r", "_law_back"] ["_law_arrows_here"] (B2 O8):={}
section
variable {P:Program}{w:World}{K:Frag}{mg:Str->Option Value}{base:Heap}{a:Ad}
theorem dK5 (T:Tx K mg a):D2 P w K mg base CX0 1 a.aC8 a.aC9 ["_law_outs"] (spV K cQ6):=by
 refine T.aC5.F.ok Q1 (X3 λds d ⟨_,_,_,_,e,_⟩=>by rw[e];rfl) (λcdv A R s H vs Q E hr h=>?_)
 obtain⟨ds,S,d,hS,r,⟨m,dr,tr,U,rfl,rfl⟩,q⟩:=h;refine⟨_,(A3 (psS 1 Q1 (C4 A2))
   (A3 (G3 An rfl (G9 rfl T.L4 (A0 (C0 (aZ3 K) (by rfl) T.P9 Bm (A0 (pv 0) A2)) A2)) (pgN 2 Q1) (A8 (G3 An rfl (Y6 (B1 (ixK K) (pv 0) (pv 2) (λ_ _=>rfl))) (pgN 3 Q1) (A8 (F0 (K9 Ab1 Ah Ag D5 (pv 1) (A0 (D6 (A0 (B4 G4 A4 (pv 2)) (A0 (pv 3) A2))) A2)))))))
   (A8 (D0 (E3 (bR5 K) (by rfl) T.M1 boot_tuple (A0 (C0 (W6 K) (by rfl) T.Q2 boot_sorted (A0 (pv 1) A2)) A2)))))),K8 hS r ?_ q⟩
 have tl:=U.tl
 have m7:=U.m7
 have Y:((tr.map tN).length:Int)=(m:Int):=by rw[Aa3,tl]
 refine A9 (F9 (E9 A5) ?_ (show 1<4 by decide))
 refine A9 (N0 (R9 (A1 (S8 (ds:=tr.map tN) (A1 (A6 rfl) A5)) A5) (by rw[Y];lia) (by rw[Y];lia)) (λi ρ=>∃M z,(M.nb=true/\z.nb=true)/\ρ=[.val (.tuple (tr.map tN)),.own ((ga (ga1 tr) i).map pD),M,z]) ⟨.no,.no,⟨rfl,rfl⟩,rfl⟩ ?_ ?_)
 .rintro i d _ J ⟨M,z,⟨b2,X⟩,rfl⟩;obtain⟨rfl,hi⟩:=S3 J;rw[Y]at hi;have hi:i<m:=by lia
  obtain⟨row,h1,h2⟩:=U.t3 hi;have N:=bH5 U (i:=i) (by lia)
  have D:tr.getD i []=row:=by rw[Ac0,h1];rfl
  refine⟨_,B7,?_⟩;refine N0 (aC7 (ds:=nI row) (D9 (d':=tN row) (A6 rfl) (A6 rfl) rfl (W2 i rfl (by rw[Aa9,h1];rfl)))) (λj ρ=>∃z,z.nb=true/\ρ=[.val (.tuple (tr.map tN)),.own ((ga (ga1 tr) i++(ga1 tr i).take j).map pD),.val (.int (i:Int)),z]) ⟨z,X,by simp only[List.take_zero,List.filter_nil,Cs,Cd];rfl⟩ ?_ ?_
  .rintro j d _ J ⟨z,X,rfl⟩;unfold nI at J;rw[Aa9]at J;obtain⟨x,B,rfl⟩:=Ap.mp J;have hj:j<row.length:=(Ab0.mp B).1;have et:(ga1 tr i).take (j+1)=(ga1 tr i).take j++[(3+(i:Int),(x:Int))]:=by
    rw[Dm];unfold ga1;rw[Aa9,D,B];rfl
   have em:(ga (ga1 tr) i++(ga1 tr i).take (j+1)).map pD=(ga (ga1 tr) i++(ga1 tr i).take j).map pD++[pD (3+(i:Int),(x:Int))]:=by
    rw[et,<- Ad7,Ad2];rfl
   refine⟨_,B7,?_⟩;show W K _ [.val (.tuple (tr.map tN)),.own ((ga (ga1 tr) i++(ga1 tr i).take j).map pD),.val (.int (i:Int)),.val (.int (x:Int))] _;refine K2 rfl (F5 (A1 (K5 A7 (A6 rfl)) (A1 (A6 rfl) A5))) ?_ ⟨.val (.int (x:Int)),rfl,?_⟩
   .rw[Aa3,Ab7,Ad1];unfold PySem.sizeLine;lia
   .rw[em];rfl
  .rintro _ ⟨z,X,rfl⟩;refine⟨.val (.int (i:Int)),z,⟨rfl,X⟩,?_⟩;rw[X5]
   have:(ga1 tr i).take (nI row).length=ga1 tr i:=Dq (by unfold ga1;rw[Aa3,D,E5];exact Aa7 _)
   rw[this]
 rintro _ ⟨M,z,⟨b2,X⟩,rfl⟩;have e:(Z6 0 ((tr.map tN).length:Int).toNat).length=tr.length:=by rw[N7,Y,tl];lia
 rw[e];have N:=bH5 U (i:=tr.length) (Aa7 _);exact L6 (Q0 (A1 (EF.e' (bK1 (ps:=arr tr) (A1 (K0 rfl) A5) (by unfold arr;lia))) A5) (aR2 _)) rfl
theorem dE1 (T:Tx K mg a):D2 P w K mg base CX0 1 a.W0 a.W1 ["_law_arrows_here"] (spL K cJ5):=by
 refine T.P4.F.ok F1 (bS4 λds d ⟨_,_,_,e,_⟩=>by rw[e];rfl) (λcdv A outer s H vs Q E hr h=>?_)
 obtain⟨ds,S,es,hS,r,⟨dr,ps,U,rfl,rfl⟩,q⟩:=h;refine⟨_,(A3 (psS 1 F1 (C4 A2))
   (A3 (G3 An rfl (Y6 (pv 0)) (Y5 (n:=2) rfl (E4 (pgN 2 F1) (E4 (pgN 3 F1) S4))) (A8 (G3 An rfl (Y6 (pv 0)) (Y5 (n:=2) rfl (E4 (pgN 4 F1) (E4 (pgN 5 F1) S4))) (A8 (O1 (PW.pt (aF3 (C3 bB5 (pv 5) (pv 2) (F8 _)) (aF3 (C3 (aE5 K hr) (D6 (A0 (pv 3) (A0 (pv 4) A2))) (pv 0) rfl) (aF3 (C3 bN0 (pv 2) (pv 3) (F8 _)) (aR4 (C3 bN0 (pv 2) (pv 4) (F8 _))))))) (A8 (F0 (K9 Ab1 Ah Ag D5 (pv 1) (A0 (D6 (A0 (pv 2) (A0 (pv 3) (A0 (pv 4) A2)))) A2)))) F3)))))
   (A8 (D0 (C0 (W6 K) (by rfl) T.Q2 boot_sorted (A0 (pv 1) A2)))))),aD7 hS r ?_ q⟩
 have hl:=U.len
 refine A9 (F9 (E9 A5) ?_ (show 1<6 by decide))
 refine A9 (N0 (aC7 (ds:=ps.map pD) (A6 rfl)) (λi ρ=>∃N R Y X,(N.nb=true/\R.nb=true/\Y.nb=true/\X.nb=true)/\ρ=[.val (.tuple (ps.map pD)),.own ((ga (λi=>rlB ps (gp ps i)) i).map tI),N,R,Y,X]) ⟨.no,.no,.no,.no,⟨rfl,rfl,rfl,rfl⟩,rfl⟩ ?_ ?_)
 .rintro i d _ hd ⟨N,R,Y,X,⟨b2,b3,J,M⟩,rfl⟩;obtain⟨rfl,hi⟩:=dC9 hd;have hal:=dL1 U (i:=i) (by lia)
  generalize hx:gp ps i=x;refine⟨_,aD1 (F6 B7 (F6 B7 Y4)),?_⟩;refine N0 (aC7 (ds:=ps.map pD) (A6 rfl)) (λj ρ=>∃Y X,(Y.nb=true/\X.nb=true)/\ρ=[.val (.tuple (ps.map pD)),.own ((ga (λi=>rlB ps (gp ps i)) i++(ps.take j).filterMap (rB ps x)).map tI),.val (.int x.1),.val (.int x.2),Y,X]) ⟨Y,X,⟨J,M⟩,by simp only[List.take_zero,List.filterMap_nil,Cd];rfl⟩ ?_ ?_
  .rintro j d _ hd ⟨Y,X,⟨J,M⟩,rfl⟩;obtain⟨rfl,hj⟩:=dC9 hd;have B:=dA4 hj;generalize hy:gp ps j=y at B ⊢;have hil:((ps.take j).filterMap (rB ps x)).length<=21:=Bi (List.length_filterMap_le _ _) (by rw[Ad1];lia)
   refine⟨_,aD1 (F6 B7 (F6 B7 Y4)),?_⟩;show W K _ [.val (.tuple (ps.map pD)),.own ((ga (λi=>rlB ps (gp ps i)) i++(ps.take j).filterMap (rB ps x)).map tI),.val (.int x.1),.val (.int x.2),.val (.int y.1),.val (.int y.2)] _
   generalize z:[Sl.val (.tuple (ps.map pD)),.own ((ga (λi=>rlB ps (gp ps i)) i++(ps.take j).filterMap (rB ps x)).map tI),.val (.int x.1),.val (.int x.2),.val (.int y.1),.val (.int y.2)]=ρ'
   have e:=aV3 (K:=K) (m:=false) (ρ := ρ') (d:=pD (x.2,y.1)) (F5 (A1 (A6 (i:=3) (by rw[<- z];rfl)) (A1 (A6 (i:=4) (by rw[<- z];rfl)) A5))) (A6 (i:=0) (by rw[<- z];rfl)) (ds:=ps.map pD) rfl (R5 _).fit (aE3 ps)
   rw[aR9]at e;have tst:=aK7 (K:=K) (ρ := ρ') (C5 (aD5 (i:=y.2) (j:=x.1) (A6 (i:=5) (by rw[<- z];rfl)) (A6 (i:=2) (by rw[<- z];rfl)))) λ_=>aK7 (C5 e) λ_=>aK7 (C5 (aX3 (g:=λi j=>decide (i<j)) (i:=x.1) (j:=x.2) (A6 (i:=2) (by rw[<- z];rfl)) (A6 (i:=3) (by rw[<- z];rfl)))) λ_=>C5 (aX3 (g:=λi j=>decide (i<j)) (i:=x.1) (j:=y.1) (A6 (i:=2) (by rw[<- z];rfl)) (A6 (i:=4) (by rw[<- z];rfl)))
   refine X4 tst (λh=>?_) (λh=>J5 ?_)
   .simp only[Ba,Ay]at h;have D:(ps.take (j+1)).filterMap (rB ps x)=(ps.take j).filterMap (rB ps x)++[[x.1,x.2,y.1]]:=by
     rw[B,List.filterMap_append]
     congr 1
     simp[rB,h]
    subst z;refine K2 (d:=tI [x.1,x.2,y.1]) rfl (F5 (A1 (A6 rfl) (A1 (A6 rfl) (A1 (A6 rfl) A5)))) ?_ ⟨.val (.int y.1),.val (.int y.2),⟨rfl,rfl⟩,?_⟩
    .rw[Aa3,Ab7];unfold PySem.sizeLine;lia
    .have em:(ga (λi=>rlB ps (gp ps i)) i++(ps.take (j+1)).filterMap (rB ps x)).map tI=(ga (λi=>rlB ps (gp ps i)) i++(ps.take j).filterMap (rB ps x)).map tI++[tI [x.1,x.2,y.1]]:=by
      rw[D,<- Ad7];rw[Ad2 (f:=tI) (l₂:=[[x.1,x.2,y.1]])];rfl
     rw[em];rfl
   .have D:(ps.take (j+1)).filterMap (rB ps x)=(ps.take j).filterMap (rB ps x):=by
     rw[B,List.filterMap_append]
     have:rB ps x y=none:=by
      unfold rB;refine Ac λhh=>?_
      simp[hh]at h
     simp[this]
    subst z;exact⟨.val (.int y.1),.val (.int y.2),⟨rfl,rfl⟩,by rw[D]⟩
  .rintro _ ⟨Y,X,⟨J,M⟩,rfl⟩;refine⟨.val (.int x.1),.val (.int x.2),Y,X,⟨rfl,rfl,J,M⟩,?_⟩;rw[Aa3,Cf,X5,hx,show rlB ps x=ps.filterMap (rB ps x) from rfl]
 rintro _ ⟨N,R,Y,X,_,rfl⟩;rw[Aa3];exact aS9 (aG7 (ts:=rgB ps) (A1 (K0 rfl) A5) (dT9 λv hv=>dU1 v ((aW2 U.nd).mem_iff.mp hv)) (by rw[(aW2 U.nd).length_eq];exact bW8 U) ((E1 _).trans (aW2 U.nd).symm) (S0 _)) rfl
end
set_option maxHeartbeats 1000000
theorem sc__law_ring_turned:C1 ["_law_arrows_here", "_law_ring", "_law_ways", "_law_made"] ["_law_arrows_here", "_law_ring"] (B2 P2):={}
theorem O2:C1 ["_law_arrows_here", "_law_cells", "_law_k", "_law_cell", "_law_found"] ["_law_arrows_here", "_law_cells"] (B2 l7):={}
def fNi (G:List (Int×Int)):PyData->Option PyData
 | .tuple [.int p,.int q]=>if(p,q)∈G then none else some (tI [p,q])
 | _=>none
theorem dB5 (G ps:List (Int×Int)):(ps.map pD).filterMap (fNi G)=(ps.filter λp=>decide (p∉G)).map pD:=by
 rw[Cm,<- List.filterMap_eq_map,List.filterMap_filter];refine R3 λx _=>?_
 show(if(x.1,x.2)∈G then none else some (tI [x.1,x.2]))=_
 by_cases h:x∈G
 .have:(x.1,x.2)∈G:=h
  rw[Ae this];simp[h]
 .have:¬(x.1,x.2)∈G:=h
  rw[Ac this];simp[h];rfl
def fSw:PyData->Option PyData
 | .tuple [.int p,.int q]=>some (tI [q,p])
 | _=>none
theorem dB0 (ps:List (Int×Int)):(ps.map pD).filterMap fSw=(ps.map sw).map pD:=by
 rw[Cm,Ae2,<- List.filterMap_eq_map];exact R3 λx _=>rfl
def uA (ps:List (Int×Int))(p q:Nat):Bool:=decide (((p:Int),(q:Int))∈ps)
structure Mv (dr:List (List Nat))(one ps:List (Int×Int)):Prop where
 ai:AI dr ps
 srt:sp ps=ps
 po:∃H,TT.Po (TT.trn dr) (uA one) (uA ps) H
theorem cT2 (ps:List (Int×Int)):sp (sp ps)=sp ps:=dE0 (aQ5 ps)
theorem dH0 {ps W:List (Int×Int)}{p q:Int}:(p,q)∈tw ps W↔((p,q)∈ps/\(p,q)∉W)\/(q,p)∈W:=by
 unfold tw;rw[Aa0,Au,Aa8];constructor
 .rintro (h | ⟨⟨u,v⟩,h,e⟩)
  .exact .inl ⟨h.1,by simpa using h.2⟩
  .unfold sw at e;cases e;exact .inr h
 .rintro (h | h)
  .exact .inl ⟨h.1,by simpa using h.2⟩
  .exact .inr ⟨(q,p),h,rfl⟩
theorem bS5 (z:Dw m dr tr)(h:td dr p q=true):∃p' q':Nat,p=(p':Int)/\q=(q':Int)/\q'∈TT.trn dr p':=by
 unfold td at h;simp only[Ba,Ay]at h;obtain⟨⟨h1,s⟩,e⟩:=h;obtain⟨q',w,rfl⟩:=Aa8.mp e;exact⟨p.toNat,q',by lia,rfl,w⟩
theorem AI.step (X:Dw m dr tr)(Y:AI dr ps)(hv:v∈rgL ps):∃x y z:Int,v=[x,y,z]/\AI dr (sp (tw ps (wys x y z))) /\
  ∃(H:Nat->Nat->Int) (e:Int),(e=1\/e = -1)/\TT.Po (TT.trn dr) (uA ps) (uA (sp (tw ps (wys x y z)))) H/\∀p q,H p q=0\/H p q=e:=by
 obtain⟨x,y,z,rfl,P,m2,m3,_,_⟩:=rgL_mem.mp hv;have s:∀w∈wys x y z,w∈ps:=λw s=>by
  simp only[wys,Aa1,Ac2,or_false]at s;rcases s with rfl | rfl | rfl
  .exact m3
  .exact P
  .exact m2
 refine⟨x,y,z,rfl,(Y.turn X s).perm (aQ5 _),?_⟩;obtain⟨a,b,rfl,rfl,M⟩:=bS5 X (Y.tie _ P);obtain⟨b',c,e1,rfl,N⟩:=bS5 X (Y.tie _ m2);obtain rfl:b=b':=by lia
 obtain⟨c',a',e2,e3,R⟩:=bS5 X (Y.tie _ m3);obtain rfl:c=c':=by lia
 obtain rfl:a=a':=by lia
 obtain⟨F,F',f,B⟩:=X.bt;have J:∀{p q:Nat},(((p:Int),(q:Int))∈wys (a:Int) (b:Int) (c:Int))↔((p=a/\q=b)\/(p=b/\q=c)\/(p=c/\q=a)):=λ{p q}=>by
  simp only[wys,Aa1,Ac2,or_false,Dr]
  lia
 have Q:∀{p q:Nat},uA (sp (tw ps (wys (a:Int) (b:Int) (c:Int)))) p q=decide (((((p:Int),(q:Int))∈ps)/\((p:Int),(q:Int))∉wys (a:Int) (b:Int) (c:Int))\/((q:Int),(p:Int))∈wys (a:Int) (b:Int) (c:Int)):=λ{p q}=>by
  unfold uA;exact Dk.mpr (((aQ5 _).mem_iff).trans dH0)
 refine TT.cZ5 X.good B.rs M N R (λp q D h=>?_) (λp q D h=>?_) (λp q D h1 h2=>?_)
 .have U:=J.mpr h
  have hp:=s _ U
  refine⟨Bc hp,?_⟩;rw[Q,Df];rintro (⟨_,z⟩ | z)
  .exact z U
  .exact Y.anti _ hp (s _ z)
 .have U:((q:Int),(p:Int))∈wys (a:Int) (b:Int) (c:Int):=J.mpr h
  refine⟨Aq λz=>Y.anti _ z (s _ U),?_⟩
  rw[Q];exact Bc (.inr U)
 .rw[Q];unfold uA;refine Dk.mpr ⟨λz=>.inl ⟨z,λy=>h1 (J.mp y)⟩,?_⟩
  rintro (z | z)
  .exact z.1
  .exact absurd (J.mp z) h2
def cP4 (ds:List PyData)(d:PyData):Prop:=∃(ps:List (Int×Int)) (x y z:Int),ps.length<=60/\ds=[.tuple (ps.map pD),tI [x,y,z]]/\d=.tuple ((sp (tw ps (wys x y z))).map pD)
def cQ1 (ds:List PyData)(post:PyData->Prop):Prop:=∃(m:Nat) (dr tr:List (List Nat)) (one:List (Int×Int)) (cs:List Int),Dw m dr tr/\AI dr one/\sp one=one/\cs.length<=63/\ds=[.tuple (one.map pD),lI cs]/\post=λd=>∃ps,d=.tuple (ps.map pD)/\Mv dr one ps
def w3 (x y z:Int):List (Int×Int):=[(x,y),(y,z),(z,x)]
theorem cW0 (x y z:Int):(w3 x y z).Perm (wys x y z):=(Dy (l₁:=[(x,y),(y,z)]) (l₂:=[(z,x)]))
section
variable {P:Program}{w:World}{K:Frag}{mg:Str->Option Value}{base:Heap}{a:Ad}
theorem dC8 (T:Tx K mg a):D2 P w K mg base CX0 1 a.W9 a.W5 ["_law_arrows_here", "_law_ring"] (spV K cP4):=by
 refine T.P0.F.ok sc__law_ring_turned (X3 λds d ⟨_,_,_,_,_,e,_⟩=>by rw[e];rfl) (λcdv A X s H vs Q E hr h=>?_)
 obtain⟨ds,S,d,hS,r,⟨ps,x,y,z,hl,rfl,rfl⟩,q⟩:=h;refine⟨_,(A3 (aN5 (i:=2) sc__law_ring_turned.nd rfl (Or.inr rfl) (C4 (A0 (D6 (A0 (B1 (ixK K) (pv 1) A4 (λ_ _=>rfl)) (A0 (B1 (ixK K) (pv 1) A4 (λ_ _=>rfl)) A2))) (A0 (D6 (A0 (B1 (ixK K) (pv 1) A4 (λ_ _=>rfl)) (A0 (B1 (ixK K) (pv 1) A4 (λ_ _=>rfl)) A2))) (A0 (D6 (A0 (B1 (ixK K) (pv 1) A4 (λ_ _=>rfl)) (A0 (B1 (ixK K) (pv 1) A4 (λ_ _=>rfl)) A2))) A2)))))
   (A3 (bU1 (i:=3) sc__law_ring_turned.nd rfl rfl (T:=["_law_arrow"]) (N':=["_law_arrow", "_law_ways"]) (is:=[2]) rfl (.of rfl rfl rfl (by exact⟨rfl,trivial⟩) rfl rfl rfl (by exact⟨⟨_,rfl,by first | exact .inl rfl | exact .inr rfl,by first | exact .inl rfl | exact .inr rfl⟩,trivial⟩)) (Y6 (pv 0)) (L5 (by decide)) λ_ _ _ _=>⟨(K4 (i:=0) (by decide +kernel:(["_law_arrow", "_law_ways"]:List Str).Nodup) rfl (Or.inl rfl)),(aK3 (C3 (V0 K hr) (pv 0) (pv 1) rfl)),(pv 0)⟩)
   (A8 (D0 (E3 (bR5 K) (by rfl) T.M1 boot_tuple (A0 (C0 (W6 K) (by rfl) T.Q2 boot_sorted (A0 (B4 (M5 K) (pv 3) (M3 (T:=["_law_way"]) (N':=["_law_way"]) (is:=[]) rfl (.of rfl rfl rfl (by exact trivial) rfl rfl rfl (by exact trivial)) (S7 (pv 2)) (L5 (by decide)) λ_ _ _ _=>⟨(K4 (i:=0) (by decide +kernel:(["_law_way"]:List Str).Nodup) rfl (Or.inl rfl)),N3,(D6 (A0 (B1 (ixK K) (pv 0) A4 (λ_ _=>rfl)) (A0 (B1 (ixK K) (pv 0) A4 (λ_ _=>rfl)) A2)))⟩)) A2)) A2)))))),K8 hS r ?_ q⟩
 have R:∀{ρ:List Sl},ρ[1]? = some (.val (tI [x,y,z]))->LV.E K true (tOp (rIx K) (D7 1) (tC (.int 0))) ρ (.int x):=λh=>D9 (ds:=[.int x,.int y,.int z]) (A6 (i:=1) h) A7 rfl rfl
 have D:∀{ρ:List Sl},ρ[1]? = some (.val (tI [x,y,z]))->LV.E K true (tOp (rIx K) (D7 1) (tC (.int 1))) ρ (.int y):=λh=>D9 (ds:=[.int x,.int y,.int z]) (A6 (i:=1) h) A7 rfl rfl
 have B:∀{ρ:List Sl},ρ[1]? = some (.val (tI [x,y,z]))->LV.E K true (tOp (rIx K) (D7 1) (tC (.int 2))) ρ (.int z):=λh=>D9 (ds:=[.int x,.int y,.int z]) (A6 (i:=1) h) A7 rfl rfl
 refine A9 (F9 (ds:=(w3 x y z).map pD) (E9 (A1 (F5 (ds:=[.int x,.int y]) (A1 (R rfl) (A1 (D rfl) A5))) (A1 (F5 (ds:=[.int y,.int z]) (A1 (D rfl) (A1 (B rfl) A5))) (A1 (F5 (ds:=[.int z,.int x]) (A1 (B rfl) (A1 (R rfl) A5))) A5))) (show 3<=PySem.sizeLine by decide)) ?_ (show 2<4 by decide))
 refine bA0 (i:=2) rfl ?_;show W K _ [.val (.tuple (ps.map pD)),.val (tI [x,y,z]),.val (.list ((w3 x y z).map pD)),.no] _;have J:=M4 (K:=K) (m:=true) (ρ:=[.val (.tuple (ps.map pD)),.val (tI [x,y,z]),.val (.list ((w3 x y z).map pD)),.no]) (n:=1) (is:=[2]) (g:=G7 0) (tt:=bB2 (tOp (cS2 K true) (D7 0) (D7 1))) (te:=D7 0) (fNi (w3 x y z)) (aC7 (ds:=ps.map pD) v0) (by rw[Aa3];unfold PySem.sizeLine;lia) (λd Y=>by
  obtain⟨u,hu,rfl⟩:=Aa8.mp Y;refine⟨_,B7,?_⟩;have e:=a8 (K:=K) (m:=false) (ρ:=(slC [.val (.tuple (ps.map pD)),.val (tI [x,y,z]),.val (.list ((w3 x y z).map pD)),.no] 1 [2]).set 0 (.val (pD u))) (ds:=(w3 x y z).map pD) v0 v1 rfl (R5 _).fit (dL9 _);rw[aR9]at e;show match (if(u.1,u.2)∈w3 x y z then none else some (tI [u.1,u.2])) with | none=>_ | some y=>_
  by_cases h:u∈w3 x y z
  .rw[Ae h];rw[Bc h]at e;exact C5 e
  .rw[Ac h];rw[Aq h]at e;exact⟨C5 e,A6 rfl⟩)
 rw[dB5]at J;refine A9 (F9 J ?_ (show 3<4 by decide))
 show W K _ [.val (.tuple (ps.map pD)),.val (tI [x,y,z]),.val (.list ((w3 x y z).map pD)),.own ((ps.filter λp=>decide (p∉w3 x y z)).map pD)] _
 have U:=M4 (K:=K) (m:=true) (ρ:=[.val (.tuple (ps.map pD)),.val (tI [x,y,z]),.val (.list ((w3 x y z).map pD)),.own ((ps.filter λp=>decide (p∉w3 x y z)).map pD)]) (n:=1) (is:=[]) (g:=G7 0) (tt:=aN0) (te:=bP4 (G1 (tOp (rIx K) (D7 0) (tC (.int 1))) (G1 (tOp (rIx K) (D7 0) (tC (.int 0))) V7))) fSw (Z1 (ds:=(w3 x y z).map pD) v2) (show 3<sizeLine by decide) (λd Y=>by
  obtain⟨u,hu,rfl⟩:=Aa8.mp Y;exact⟨_,B7,y0,F5 (A1 (D9 (ds:=[.int u.1,.int u.2]) (d':=.int u.2) v0 A7 rfl rfl) (A1 (D9 (ds:=[.int u.1,.int u.2]) (d':=.int u.1) v0 A7 rfl rfl) A5))⟩)
 rw[dB0]at U;have lf:(ps.filter λp=>decide (p∉w3 x y z)).length<=60:=Bi (List.length_filter_le _ _) hl
 have M:((w3 x y z).map sw).length=3:=rfl
 have N:=bE6 (K:=K) (K0 (i:=3) rfl) (EF.e' U) (aR2 _) (aR2 _) (by rw[Aa3,Aa3,M];unfold PySem.sizeLine;lia)
 rw[<- Ad2]at N;have es:=bK1 (K:=K) (A1 (EF.e' N) A5) (by rw[Ab7,M];lia)
 refine L6 (Q0 (A1 (EF.e' es) A5) (aR2 _)) ?_;show PyData.tuple ((sp (tw ps (w3 x y z))).map pD)=_;rw[dE0 (dA5 (cW0 x y z))]
theorem dP8 (T:Tx K mg a):D2 P w K mg base CX0 2 a.aI4 a.aI5 ["_law_arrows_here", "_law_cells"] (spX K cQ1):=by
 have Y:D2 P w K mg base CX0 1 _ _ _ _:=dE1 T
 have U:D2 P w K mg base CX0 1 _ _ _ _:=dC8 T
 have J:D2 P w K mg base CX0 1 _ _ _ _:=aK9 T
 refine T.l9.F.ok O2 (dL6 λds d ⟨_,_,_,_,_,_,_,_,_,e,_⟩=>by rw[e];rfl) (λcdv A outer s H vs Q E hr h=>?_)
 obtain⟨ds,S,post,hS,r,⟨m,dr,tr,one,R,dw,ai,B,hcl,rfl,rfl⟩,q⟩:=h;refine⟨_,(A3 (G3 An rfl (bO5 true K rfl T.X6 (A0 (pv 1) A2)) (Y5 (n:=2) rfl (E4 (pgN 2 O2) (E4 (pgN 3 O2) S4))) (A3 (psS 4 O2 (pcl Y hr T.P4 (A0 (pv 0) A2)))
   (A8 (O1 (C3 aS7 (C0 (aZ3 K) (by rfl) T.P9 Bm (A0 (pv 4) A2)) A4 (F8 _)) (A8 (psS 0 O2 (pcl U hr T.P0 (A0 (pv 0) (A0 (B1 (ixK K) (pv 4) (B4 U1 (pcl J hr T.N8 (A0 (pv 3) (A0 (B4 G4 A4 (pv 2)) A2))) (C0 (aZ3 K) (by rfl) T.P9 Bm (A0 (pv 4) A2))) (λ_ _=>rfl)) A2))))) F3))))
   (A8 (D0 (pv 0)))),bR2 hS r ?_ q⟩
 refine A9 (N0 (bV0 true (ds:=R.map PyData.int) (A1 v1 A5)) (λk ρ=>∃ps x2 x3 x4,Mv dr one ps/\ρ=[.val (.tuple (ps.map pD)),.val (lI R),x2,x3,x4]) ⟨one,.no,.no,.no,⟨ai,B,_,TT.Po.refl⟩,rfl⟩ ?_ ?_)
 .rintro k d _ hd ⟨ps,x2,x3,x4,M,rfl⟩;obtain⟨y,hy,rfl⟩:=bI9 hd;have hkl:k<R.length:=by have:=(Ab0.mp hy).1;simpa using this
  rw[Aa9]at hy;obtain⟨c,hc,rfl⟩:=Ap.mp hy;refine⟨_,aD1 (ds:=[.int (k:Int),.int c]) (F6 B7 (F6 B7 Y4)),?_⟩;refine A9 (F9 (ds:=(U0 (rgL ps)).map tI) (S5 (pre:=cJ5) (X:=E0) (A1 v0 A5) ⟨dr,ps,M.ai,rfl,rfl⟩) ?_ (show 4<5 by decide))
  refine bA0 (i:=4) rfl ?_;have hL:(U0 (rgL ps)).length<64:=by rw[(E1 _).length_eq];exact bW8 M.ai
  show W K _ [.val (.tuple (ps.map pD)),.val (lI R),.val (.int (k:Int)),.val (.int c),.val (.list ((U0 (rgL ps)).map tI))] _
  refine X4 (C5 (aX3 (g:=λi j=>decide (i>j)) (S8 (ds:=(U0 (rgL ps)).map tI) (A1 v4 A5)) (A7 (i:=0)))) (λh=>?_) (λh=>J5 ⟨ps,_,_,_,M,rfl⟩)
  have hpos:0<(U0 (rgL ps)).length:=by have:=Ax h;rw[Aa3]at this;lia
  obtain⟨j,hj⟩:∃j:Nat,mx c (70+(k:Int)) % (((U0 (rgL ps)).map tI).length:Int)=(j:Int):=⟨(mx c (70+(k:Int)) % (((U0 (rgL ps)).map tI).length:Int)).toNat,by have:=Co (mx c (70+(k:Int))) (b:=(((U0 (rgL ps)).map tI).length:Int)) (by rw[Aa3];lia);lia⟩
  have N:j<(U0 (rgL ps)).length:=by have:=Cw (mx c (70+(k:Int))) (b:=(((U0 (rgL ps)).map tI).length:Int)) (by rw[Aa3];lia);rw[Aa3]at this hj;lia
  obtain⟨x,y,z,ev,D,H',e',_,po',_⟩:=M.ai.step dw ((E1 _).mem_iff.mp (Cr N));have hl21:=M.ai.len;refine E7 (d:=.tuple ((sp (tw ps (wys x y z))).map pD)) (C8 (pre:=cP4) (X:=E0) (A1 v0 (A1 (D9 (ds:=(U0 (rgL ps)).map tI) (d':=tI [x,y,z]) v4 (e_i (C8 (pre:=aW4) (X:=E0) (A1 v3 (A1 (K5 (g:=λi j=>i+j) (A7 (i:=70)) v2) A5)) ⟨c,70+(k:Int),by lia,rfl,rfl⟩) (S8 (ds:=(U0 (rgL ps)).map tI) (A1 v4 A5)) (by rw[Aa3];lia)) rfl (W2 j hj (by rw[Aa9,Aa2 N,ev];rfl))) A5)) ⟨ps,x,y,z,by lia,rfl,rfl⟩) ⟨sp (tw ps (wys x y z)),_,_,_,⟨D,cT2 _,?_⟩,rfl⟩
  obtain⟨H0,po⟩:=M.po;exact⟨_,po.trans po'⟩
 .rintro _ ⟨ps,x2,x3,x4,M,rfl⟩;exact L6 v0 ⟨ps,rfl,M⟩
end
set_option maxHeartbeats 1000000
theorem cZ6:C1 ["one", "other", "p", "q"] ["one", "other", "p", "q"] (B2 bT2):={}
theorem sc_heights:C1 ["drawing", "one", "other", "known", "p", "q"] ["drawing", "one", "other"] (B2 aN3):={}
def B8 (m:Nat)(dr:List (List Nat)):List (List Int):=(U0 ((TT.rds (TT.trn dr) (m+3)).map cL)).filter λl=>decide (l≠[0,2,1])
theorem cZ9 (e:Dw m dr tr):(B8 m dr).length<=20:=by
 have h:=e.good.rds_len
 have w:=e.m7
 unfold B8;have h1:=List.length_filter_le (λl:List Int=>decide (l≠[0,2,1])) (U0 ((TT.rds (TT.trn dr) (m+3)).map cL))
 rw[(E1 _).length_eq,Aa3]at h1
 lia
theorem aX0 (e:Dw m dr tr):TT.lnd (TT.trn dr) 0 2=[0,2,1]:=by
 have:=e.good.th_un e.good.outs.1
 unfold TT.lnd;rw[<- this];rfl
theorem cE4 (m:Nat)(e:List (List Nat)):(B8 m e).Pairwise E8:=(S0 _).sublist List.filter_sublist
theorem bY3 (w:Dw m dr tr):(B8 m dr).Nodup:=by
 unfold B8;refine List.Pairwise.filter _ ((E1 _).nodup_iff.mpr ?_);rw[Ac6,Ae0];exact(Ac6.mp w.good.rds_nd).imp λh e=>h (aD6 e)
theorem u7 (z:Dw m dr tr):t∈B8 m dr↔∃p q,q∈TT.trn dr p/\t=cL (TT.lnd (TT.trn dr) p q)/\TT.lnd (TT.trn dr) p q≠[0,2,1]:=by
 unfold B8;rw[Au,(E1 _).mem_iff,Aa8];constructor
 .rintro⟨⟨l,s,rfl⟩,h⟩;obtain⟨p,q,w,rfl⟩:=z.good.rds_mem.mp s;exact⟨p,q,w,rfl,λe=>by rw[e]at h;simp[cL]at h⟩
 .rintro⟨p,q,w,rfl,h⟩;exact⟨⟨_,z.good.rds_mem.mpr ⟨p,q,w,rfl⟩,rfl⟩,Bc λe=>h (aD6 (show cL _=cL [0,2,1] from e))⟩
theorem aJ2 (w:Dw m dr tr):(B8 m dr).length+5=2*(m+3):=by
 have h:=w.good.inner_len
 unfold B8;have z:=(E1 ((TT.rds (TT.trn dr) (m+3)).map cL)).filter λl=>decide (l≠[0,2,1])
 rw[z.length_eq,List.filter_map,Aa3,<- h]
 congr 2
 refine List.filter_congr λl _=>?_
 refine Dk.mpr (not_congr ⟨λe=>?_,λe=>by rw[e];rfl⟩)
 exact aD6 (show cL l=cL [0,2,1] from e)
def hI (H:Nat->Nat->Int):List Int->Int
 | [x,y,_]=>H x.toNat y.toNat
 | _=>0
def hN (H:Nat->Nat->Int)(l:List Nat):Int:=hI H (cL l)
def kvH (H:Nat->Nat->Int)(L:List (List Nat)):List (List Int×PyData):=L.map λl=>(cL l,PyData.int (hN H l))
theorem bW2 (H:Nat->Nat->Int)(L:List (List Nat))(l:List Nat):(kvH H L).any (λx=>decide (x.1=cL l))=decide (l∈L):=by
 unfold kvH;rw[List.any_map,Dh,List.any_eq_true,Ay];constructor
 .rintro⟨x,e,h⟩;simp only[Function.comp,Ay]at h;rw[<- aD6 h];exact e
 .intro h;exact⟨l,h,by simp[Function.comp]⟩
theorem bY9 (h:l∉L):T0 (kvH H L) (cL l) (.int (hN H l))=kvH H (L++[l]):=by
 unfold T0;rw[bW2,Ac (by simp[h])]
 unfold kvH;rw[Ad2];rfl
theorem aH2 (H:Nat->Nat->Int)(L:List (List Nat)):(kvH H L).all (λx=>aK8 x.2)=true:=by
 unfold kvH;rw[List.all_map,Ac9];intro x _;rfl
theorem aW1:∀{L:List (List Nat)},l∈L->atD (kvH H L) (cL l)=some (.int (hN H l))
 | [],h=>by cases h
 | x::L,h=>by
  unfold atD kvH;rw[Ac7,By];by_cases e:x=l
  .subst e;simp
  .have e':¬cL x=cL l:=λz=>e (aD6 z)
   simp only[e',decide_false];exact aW1 (by rcases Aa1.mp h with h | h;exact absurd h.symm e;exact h)
section
variable {m:Nat}{dr tr:List (List Nat)}{u v:Nat->Nat->Bool}{H:Nat->Nat->Int}
theorem Y7 (X:Dw m dr tr)(z:TT.Po (TT.trn dr) u v H)(U:q∈TT.trn dr p):hN H (TT.lnd (TT.trn dr) p q)=H p q:=by
 have G:=X.good
 have s:=G.th U
 have w:=z.fa _ _ _ s
 have Y:=z.fa _ _ _ (G.tri _ _ _ s)
 unfold TT.lnd;rcases TT.R6 p q (TT.th (TT.trn dr) p q) with e | e | e <;> rw[e]
 .show H ((p:Int).toNat) ((q:Int).toNat)=_
  rw[Ac8,Ac8]
 .show H ((q:Int).toNat) ((TT.th (TT.trn dr) p q:Int).toNat)=_
  rw[Ac8,Ac8,w]
 .show H ((TT.th (TT.trn dr) p q:Int).toNat) ((p:Int).toNat)=_
  rw[Ac8,Ac8,w,Y]
theorem bG1 (e:Dw m dr tr)(s:TT.Po (TT.trn dr) u v H){t:List Int}(z:t∈B8 m dr):∃p q,q∈TT.trn dr p/\t=cL (TT.lnd (TT.trn dr) p q)/\hI H t=H p q:=by
 obtain⟨p,q,w,rfl,_⟩:=(u7 e).mp z;exact⟨p,q,w,rfl,Y7 e s w⟩
end
def fHe (H:Nat->Nat->Int):PyData->Option PyData
 | .tuple [.int x,.int y,.int _]=>some (.int (H x.toNat y.toNat))
 | _=>none
theorem dJ4 (w:Dw m dr tr)(s:t∈B8 m dr):∃x y z:Int,t=[x,y,z]:=by
 obtain⟨p,q,Y,rfl,_⟩:=(u7 w).mp s;obtain⟨a,b,c,e,_⟩:=i5 (TT.trn dr) p q;rw[e];exact⟨a,b,c,rfl⟩
theorem cB8 {H:Nat->Nat->Int}{L:List (List Int)}(h:∀t∈L,∃x y z:Int,t=[x,y,z]):(L.map tI).filterMap (fHe H)=(L.map (hI H)).map PyData.int:=by
 rw[Cm,Ae2,<- List.filterMap_eq_map];refine R3 λt e=>?_
 obtain⟨x,y,z,rfl⟩:=h t e;rfl
def dE5 (ds:List PyData)(d:PyData):Prop:=∃(one other:List (Int×Int)) (p q:Nat),ds=[.tuple (one.map pD),.tuple (other.map pD),.int (p:Int),.int (q:Int)]/\d=.int (TT.rsn (uA one) (uA other) p q)
def aH3 (ds:List PyData)(d:PyData):Prop:=∃(m:Nat) (dr tr:List (List Nat)) (one other:List (Int×Int)) (H:Nat->Nat->Int),Dw m dr tr/\TT.Po (TT.trn dr) (uA one) (uA other) H/\ds=[.tuple (dr.map tN),.tuple (one.map pD),.tuple (other.map pD)]/\d=tI ((B8 m dr).map (hI H))
section
variable {P:Program}{w:World}{K:Frag}{mg:Str->Option Value}{base:Heap}{a:Ad}
theorem dP1 (T:Tx K mg a):D2 P w K mg base CX0 1 a.cI3 a.cK9 ["one", "other", "p", "q"] (spV K dE5):=by
 refine T.cM6.F.ok cZ6 (X3 λds d ⟨_,_,_,_,e,_⟩=>by rw[e];rfl) (λJ A Y s H vs Q E hr h=>?_)
 obtain⟨ds,S,d,M,r,⟨one,other,p,z,rfl,rfl⟩,q⟩:=h;refine⟨_,(A8 (D0 (B4 N4 (E3 aB3 (by rfl) T.aY1 boot_int (A0 (aB2 (aE5 K hr) (D6 (A0 (pv 2) (A0 (pv 3) A2))) (pv 0) rfl) A2)) (E3 aB3 (by rfl) T.aY1 boot_int (A0 (aB2 (aE5 K hr) (D6 (A0 (pv 2) (A0 (pv 3) A2))) (pv 1) rfl) A2))))),K8 M r ?_ q⟩
 have X:=aV3 (K:=K) (m:=false) (ρ:=sl0 4 [.tuple (one.map pD),.tuple (other.map pD),.int (p:Int),.int (z:Int)]) (d:=pD ((p:Int),(z:Int))) (ds:=one.map pD) (F5 (A1 v2 (A1 v3 A5))) v0 rfl (R5 _).fit (aE3 _)
 have U:=aV3 (K:=K) (m:=false) (ρ:=sl0 4 [.tuple (one.map pD),.tuple (other.map pD),.int (p:Int),.int (z:Int)]) (d:=pD ((p:Int),(z:Int))) (ds:=other.map pD) (F5 (A1 v2 (A1 v3 A5))) v1 rfl (R5 _).fit (aE3 _)
 rw[aR9]at X U;exact L6 (K5 (g:=λi j=>i-j) (bE0 (A1 X A5)) (bE0 (A1 U A5))) rfl
theorem dU4 (T:Tx K mg a):D2 P w K mg base CX0 6 a.bA4 a.bD1 ["drawing", "one", "other"] (spV K aH3):=by
 have M:D2 P w K mg base CX0 4 _ _ _ _:=cV0 T
 have U:D2 P w K mg base CX0 3 _ _ _ _:=dE2 T
 have G_rise:D2 P w K mg base CX0 1 _ _ _ _:=dP1 T
 have J:D2 P w K mg base CX0 5 _ _ _ _:=cL4 T
 refine T.R7.F.ok sc_heights (X3 λds d ⟨_,_,_,_,_,_,_,_,e,_⟩=>by rw[e];rfl) (λcdv A outer s Hh vs Q E hr h=>?_)
 obtain⟨ds,S,d,hS,r,⟨m,Y,tr,one,other,H,N,po,rfl,rfl⟩,q⟩:=h;obtain⟨ad,gF,sF⟩:=T.U6;refine⟨_,(A3 (aN5 (i:=3) sc_heights.nd rfl (Or.inr rfl) (bE3 K hr (bI8 (v:=.ref ad) rfl gF rfl) A4))
   (A3 (G3 An rfl (S7 (pcl M hr T.aO8 (A0 (pv 0) (A0 (bI8 (v:=.ref ad) rfl gF rfl) (A0 (C4 A2) A2))))) (Y5 (n:=2) rfl (E4 (pgN 4 sc_heights) (E4 (pgN 5 sc_heights) S4))) (A8 (Z7 K hr (pv 3) (pcl U hr T.Q8 (A0 (pv 0) (A0 (pv 5) (A0 (pv 4) A2)))) (B4 N4 (B1 (V5 K hr) (pv 3) (pcl U hr T.Q8 (A0 (pv 0) (A0 (pv 4) (A0 (pv 5) A2)))) (λ_ _=>rfl)) (pcl G_rise hr T.cM6 (A0 (pv 1) (A0 (pv 2) (A0 (pv 4) (A0 (pv 5) A2)))))))))
   (A8 (D0 (E3 (bR5 K) (by rfl) T.M1 boot_tuple (A0 (M3 (T:=["land"]) (N':=["land", "known"]) (is:=[3]) rfl (.of rfl rfl rfl (by exact⟨rfl,trivial⟩) rfl rfl rfl (by exact⟨⟨_,rfl,by first | exact .inl rfl | exact .inr rfl,by first | exact .inl rfl | exact .inr rfl⟩,trivial⟩)) (S7 (pcl J hr T.aC6 (A0 (pv 0) A2))) (L5 (by decide)) λ_ _ _ _=>⟨(K4 (i:=0) (by decide +kernel:(["land", "known"]:List Str).Nodup) rfl (Or.inl rfl)),N3,(B1 (V5 K hr) (pv 1) (pv 0) (λ_ _=>rfl))⟩) A2)))))),K8 hS r ?_ q⟩
 have G:=N.good
 have m7:=N.m7
 have R:2∈TT.trn Y 0:=(TT.C7 G.outs.1).1
 have h02:hN H [0,2,1]=0:=by rw[<- aX0 N,Y7 N po R];exact po.z
 have eo:∀{ρ:List Sl},LV.E K true (tC (.ref ad)) ρ (tI [0,2,1]):=λ{ρ}=>bV9 (v:=.ref ad) λH=>.tup (sF H) (.cons (.int _) (.cons (.int _) (.cons (.int _) .nil)))
 refine A9 (aE8 (aR6 (ks:=[0,2,1]) (d:=.int 0) eo A7 rfl) ?_ (show 3<6 by decide))
 have B:=TT.t6 G R (sh:=[]) (100+(TT.trn Y 0).length)
 have CF:=TT.bO4 G R (sh:=[]) (100+(TT.trn Y 0).length)
 have hfl:=TT.cY7 G R (sh:=[])
 have hall:∀p D,D∈TT.trn Y p->TT.lnd (TT.trn Y) p D∈(TT.fin (TT.trn Y) [] 0 2).rch:=λp D hq=>by
  refine(TT.cV2 G R (by lia)).mpr ⟨p,D,hq,rfl,?_⟩
  exact TT.aR5 G (P:=λp q=>TT.Rc (TT.trn Y) (TT.shP []) 0 2 p q) (λq x y ha h=>.rot h ha) (λp q hq h=>.cross h hq (by simp[TT.shP])) R .base p D hq
 have hfd:TT.fin (TT.trn Y) [] 0 2=TT.run (TT.trn Y) [] (TT.ini (TT.lnd (TT.trn Y) 0 2)) (100+(TT.trn Y 0).length):=rfl
 rw[hfd]at hall hfl;have ec:=S5 (K:=K) (pre:=dF7) (X:=E0) (ρ:=[.val (.tuple (Y.map tN)),.val (.tuple (one.map pD)),.val (.tuple (other.map pD)),.tr (.dic [([0,2,1],.int 0)]),.no,.no]) (es:=(TT.fin (TT.trn Y) [] 0 2).crs.map λz=>pD (cI z)) (A1 v0 (A1 eo (A1 (EF.e' (E9 A5)) A5))) ⟨m,Y,tr,0,2,[],N,R,by rw[aX0 N];rfl,rfl⟩
 rw[hfd]at ec;generalize TT.run (TT.trn Y) [] (TT.ini (TT.lnd (TT.trn Y) 0 2)) (100+(TT.trn Y 0).length)=st at *;have hrl:st.rch.length=st.crs.length+1:=by rw[B.e,Ar,Aa3]
 have hr1:st.rch.take 1=[[0,2,1]]:=by rw[B.e,aX0 N];rfl
 refine A9 (N0 (Z1 (EF.e' ec)) (λi ρ=>∃x4 x5,(x4.nb=true/\x5.nb=true)/\ρ=[.val (.tuple (Y.map tN)),.val (.tuple (one.map pD)),.val (.tuple (other.map pD)),.tr (.dic (kvH H (st.rch.take (i+1)))),x4,x5]) ⟨.no,.no,⟨rfl,rfl⟩,by
  rw[Nat.zero_add,hr1];show _=[_,_,_,Sl.tr (.dic [([0,2,1],.int (hN H [0,2,1]))]),_,_];rw[h02];rfl⟩ ?_ ?_)
 .rintro i d _ hd ⟨x4,x5,⟨b4,b5⟩,rfl⟩;rw[Aa9]at hd;obtain⟨x,hx,rfl⟩:=Ap.mp hd;have hil:i<st.crs.length:=(Ab0.mp hx).1;have xt:x.2∈TT.trn Y x.1:=B.tc x (Aw hx);have hfrom:=CF i x hx;have hnext:st.rch[i+1]? = some (TT.lnd (TT.trn Y) x.2 x.1):=by rw[B.e,List.getElem?_cons_succ,Aa9,hx];rfl
  have htk:st.rch.take (i+2)=st.rch.take (i+1)++[TT.lnd (TT.trn Y) x.2 x.1]:=by rw[Dm,hnext];rfl
  have hnew:TT.lnd (TT.trn Y) x.2 x.1∉st.rch.take (i+1):=λhm=>by
   have nd:=B.nd
   rw[<- Ad3 (i+2) st.rch,htk]at nd
   have:=(Aa4.mp (Aa4.mp nd).1).2.2 _ hm _ (Ad8.mpr rfl)
   exact this rfl
  refine⟨_,aD1 (ds:=[.int (x.1:Int),.int (x.2:Int)]) (F6 B7 (F6 B7 Y4)),?_⟩;show W K _ [.val (.tuple (Y.map tN)),.val (.tuple (one.map pD)),.val (.tuple (other.map pD)),.tr (.dic (kvH H (st.rch.take (i+1)))),.val (.int (x.1:Int)),.val (.int (x.2:Int))] _;have hd:LV.E K false (D7 3) [.val (.tuple (Y.map tN)),.val (.tuple (one.map pD)),.val (.tuple (other.map pD)),.tr (.dic (kvH H (st.rch.take (i+1)))),.val (.int (x.1:Int)),.val (.int (x.2:Int))] (.dict (J8 (kvH H (st.rch.take (i+1))))):=by
   rw[<- aB8 (aH2 H (st.rch.take (i+1)))];exact dT5 (i:=3) (t:=.dic (kvH H (st.rch.take (i+1)))) rfl
  have hv:hN H (TT.lnd (TT.trn Y) x.2 x.1)=hN H (TT.lnd (TT.trn Y) x.1 x.2)-TT.rsn (uA one) (uA other) x.1 x.2:=by
   rw[Y7 N po (G.sym xt),Y7 N po xt];exact po.st _ _ xt
  have ev:=K5 (K:=K) (m:=true) (g:=λi j=>i-j) (Q9 (m:=false) (d:=.int (hN H (TT.lnd (TT.trn Y) x.1 x.2))) hd (show LV.E K false _ _ (tI (cL (TT.lnd (TT.trn Y) x.1 x.2))) by rw[<- aU3];exact C8 (pre:=cQ0) (X:=E0) (A1 v0 (A1 v4 (A1 v5 A5))) ⟨m,Y,tr,x.1,x.2,N,xt,rfl,rfl⟩) (aW1 hfrom)) (C8 (pre:=dE5) (X:=E0) (A1 v1 (A1 v2 (A1 v4 (A1 v5 A5)))) ⟨one,other,x.1,x.2,rfl,rfl⟩)
  rw[<- hv]at ev;refine aA1 (ks:=cL (TT.lnd (TT.trn Y) x.2 x.1)) (i:=3) ev rfl (show LV.E K true _ _ (tI (cL (TT.lnd (TT.trn Y) x.2 x.1))) by rw[<- aU3];exact C8 (pre:=cQ0) (X:=E0) (A1 v0 (A1 v5 (A1 v4 A5))) ⟨m,Y,tr,x.2,x.1,N,G.sym xt,rfl,rfl⟩) (by unfold kvH;rw[Aa3,Ad1];unfold PySem.sizeLine;lia) ⟨.val (.int (x.1:Int)),.val (.int (x.2:Int)),⟨rfl,rfl⟩,?_⟩
  show([.val (.tuple (Y.map tN)),.val (.tuple (one.map pD)),.val (.tuple (other.map pD)),.tr (.dic (T0 (kvH H (st.rch.take (i+1))) (cL (TT.lnd (TT.trn Y) x.2 x.1)) (.int (hN H (TT.lnd (TT.trn Y) x.2 x.1))))),.val (.int (x.1:Int)),.val (.int (x.2:Int))]:List Sl)=_
  rw[bY9 hnew,<- htk]
 rintro _ ⟨x4,x5,_,rfl⟩;rw[Aa3,show st.crs.length+1=st.rch.length from hrl.symm,Cf]
 refine aM4 (i:=3) rfl ?_;show W K _ [.val (.tuple (Y.map tN)),.val (.tuple (one.map pD)),.val (.tuple (other.map pD)),.val (dD (kvH H st.rch)),x4,x5] _;rw[aB8 (aH2 H st.rch)];have hil:=cZ9 N;have cm:=M4 (K:=K) (m:=true) (ρ:=[.val (.tuple (Y.map tN)),.val (.tuple (one.map pD)),.val (.tuple (other.map pD)),.val (.dict (J8 (kvH H st.rch))),x4,x5]) (n:=1) (is:=[3]) (g:=G7 0) (tt:=aN0) (te:=tOp (aL3 K) (D7 1) (D7 0)) (fHe H) (Z1 (ds:=(B8 m Y).map tI) (EF.e' (S5 (pre:=dF0) (X:=E0) (A1 v0 A5) ⟨m,Y,tr,N,rfl,rfl⟩))) (by rw[Aa3];unfold PySem.sizeLine;lia) (λd hd=>by
  obtain⟨t,ht,rfl⟩:=Aa8.mp hd;obtain⟨p,D,hq,rfl,hh⟩:=bG1 N po ht;have e3:fHe H (tI (cL (TT.lnd (TT.trn Y) p D)))=some (.int (hN H (TT.lnd (TT.trn Y) p D))):=by
   obtain⟨x,y,z,e⟩:=dJ4 N ht;rw[show hN H (TT.lnd (TT.trn Y) p D)=hI H (cL (TT.lnd (TT.trn Y) p D)) from rfl,e];rfl
  rw[e3];exact⟨_,B7,y0,Q9 (kvs:=kvH H st.rch) (ks:=cL (TT.lnd (TT.trn Y) p D)) v1 v0 (aW1 (hall p D hq))⟩)
 rw[cB8 λt ht=>dJ4 N ht]at cm
 exact L6 (Q0 (A1 (EF.e' cm) A5) (O0 _)) rfl
end
set_option maxHeartbeats 1000000
theorem J7:C1 ["_law_drawing", "_law_left", "_law_p", "_law_q"] ["_law_drawing"] (B2 M7):={}
theorem Z9:C1 ["_law_one", "_law_other", "_law_way", "_law_back"] ["_law_one", "_law_other", "_law_way"] (B2 U3):={}
theorem sc__law_heights:C1 ["_law_drawing", "_law_one", "_law_other", "_law_left", "_law_known", "_law_waiting", "_law_a", "_law_b", "_law_c", "_law_way", "_law_beyond"] ["_law_drawing", "_law_one", "_law_other"] (B2 W3):={}
theorem bP9:∀(kv:List (List Int×PyData)) (k k':List Int) (d:PyData),atD (T0 kv k d) k'=if k'=k then some d else atD kv k':=λkv k k' d=>by
 unfold T0;have any_iff:(kv.any λx=>decide (x.1=k))=true↔∃x∈kv,x.1=k:=by
  rw[List.any_eq_true];exact⟨λ⟨x,h,z⟩=>⟨x,h,Ax z⟩,λ⟨x,h,z⟩=>⟨x,h,Bc z⟩⟩
 split
 .rename_i h;obtain⟨x,hx,hk⟩:=any_iff.mp h
  clear h any_iff
  induction kv with
  | nil=>cases hx
  | cons y kv ih=>
   rw[Ac7];unfold atD;rw[By,By];by_cases e:y.1=k
   .rw[Ae e];by_cases e':k'=k
    .rw[Ae e',e,Bc e'.symm];rfl
    .rw[Ac e',e,Aq (λz=>e' z.symm)]
     have:∀(l:List (List Int×PyData)),((l.map λx=>if x.1=k then(x.1,d) else x).find? λx=>decide (x.1=k')).map (·.2)=(l.find? λx=>decide (x.1=k')).map (·.2):=λl=>by
      induction l with
      | nil=>rfl
      | cons z l ihl=>
       rw[Ac7,By,By];by_cases ez:z.1=k
       .rw[Ae ez,ez,Aq (λz=>e' z.symm)];exact ihl
       .rw[Ac ez];by_cases e3:z.1=k'
        .rw[Bc e3]
        .rw[Aq e3];exact ihl
     exact this kv
   .rw[Ac e];rcases Aa1.mp hx with rfl | hx
    .exact absurd hk e
    .have ih:=ih hx
     by_cases e3:y.1=k'
     .have e4:k'≠k:=λz=>e (e3.trans z)
      rw[Bc e3,Ac e4]
     .rw[Aq e3];exact ih
 .rename_i h;have hn:∀x∈kv,x.1≠k:=λx hx e=>h (any_iff.mpr ⟨x,hx,e⟩)
  unfold atD;rw[List.find?_append];by_cases e':k'=k
  .rw[Ae e',List.find?_eq_none.mpr (λx hx=>by rw[decide_eq_true_iff];exact λz=>hn x hx (z.trans e')),Option.none_or,By,Bc e'.symm];rfl
  .rw[Ac e',By,Aq (λz=>e' z.symm)]
   cases kv.find? λx=>decide (x.1=k') <;> rfl
theorem aG1 (h:x.nb=true):M9 (x::r)=M9 r:=by
 cases x <;> first | rfl | cases h
structure LqOk (dr:List (List Nat))(kvs:List (List Int×PyData)):Prop where
 nd:(kvs.map (·.1)).Nodup
 el:∀x∈kvs,∃p q:Nat,q∈TT.trn dr p/\x=([(p:Int),(q:Int)],tI (cL (TT.lnd (TT.trn dr) p q)))
structure Lq (m:Nat)(dr:List (List Nat))(kvs:List (List Int×PyData)):Prop where
 ok:LqOk dr kvs
 le:kvs.length<=100
 at_:∀p q:Nat,q∈TT.trn dr p->atD kvs [(p:Int),(q:Int)]=some (tI (cL (TT.lnd (TT.trn dr) p q)))
def cN0 (ds:List PyData)(post:PyData->Prop):Prop:=∃(m:Nat) (dr tr:List (List Nat)),Dw m dr tr/\ds=[.tuple (dr.map tN)]/\post=λd=>∃kvs,d=.dict (J8 kvs)/\Lq m dr kvs
theorem cG5 (h1:x≠y)(U:y≠z)(J:x≠z):TT.R4 [x,y,z]=TT.nrm x y z:=by
 obtain⟨M,R,m,Q⟩:∃M:Nat,M∈[x,y,z]/\(∀c∈[x,y,z],M<=c)/\[x,y,z].drop ([x,y,z].idxOf M)++[x,y,z].take ([x,y,z].idxOf M)=TT.nrm x y z:=by
  unfold TT.nrm;by_cases Y:x<y/\x<z
  .rw[Ae Y];exact⟨x,by simp,λc w=>by simp at w;lia,by simp⟩
  .rw[Ac Y];by_cases X:y<z/\y<x
   .rw[Ae X];exact⟨y,by simp,λc w=>by simp at w;lia,by rw[show [x,y,z].idxOf y=1 from TT.K6 (p:=[x]) (s:=[z]) (by simp[h1,U,J]) rfl];rfl⟩
   .rw[Ac X];exact⟨z,by simp,λc w=>by simp at w;lia,by rw[show [x,y,z].idxOf z=2 from TT.K6 (p:=[x,y]) (s:=[]) (by simp[h1,U,J]) rfl];rfl⟩
 have e:TT.mn [x,y,z]=M:=by
  have N:=TT.bX3 (l:=[x,y,z]) (by simp)
  have D:=N.2 M R
  have F:=m _ N.1
  lia
 unfold TT.R4;rw[e,Q]
theorem cW9 (l:List Int):aK8 (tI l)=true:=by
 show(l.map PyData.int).all _=true
 rw[List.all_map,Ac9];intro x _;rfl
theorem LqOk.flat (h:LqOk dr kvs):kvs.all (λx=>aK8 x.2)=true:=by
 rw[Ac9];intro x e;obtain⟨p,q,_,rfl⟩:=h.el x e;exact cW9 _
theorem LqOk.put (h:LqOk dr kvs)(s:q∈TT.trn dr p):LqOk dr (T0 kvs [(p:Int),(q:Int)] (tI (cL (TT.lnd (TT.trn dr) p q)))):=by
 unfold T0;split
 .refine⟨?_,λx hx=>?_⟩
  .have e:(kvs.map λx=>if x.1=[(p:Int),(q:Int)] then(x.1,tI (cL (TT.lnd (TT.trn dr) p q))) else x).map (·.1)=kvs.map (·.1):=by
    rw[Ae2];refine Az λx _=>?_
    show(if _ then _ else _:List Int×PyData).1=_
    split <;> rfl
   rw[e];exact h.nd
  .obtain⟨y,z,rfl⟩:=Aa8.mp hx;split
   .rename_i e;exact⟨p,q,s,by rw[e]⟩
   .exact h.el y z
 .rename_i Y;refine⟨?_,λx hx=>?_⟩
  .rw[Ad2];refine Aa4.mpr ⟨h.nd,by simp,λa m b w=>?_⟩
   have w:b=[(p:Int),(q:Int)]:=by simpa using w
   rintro rfl;obtain⟨y,z,e⟩:=Aa8.mp m;exact Y (List.any_eq_true.mpr ⟨y,z,Bc (e.trans w)⟩)
  .rcases Aa0.mp hx with hx | hx
   .exact h.el x hx
   .exact⟨p,q,s,Ad8.mp hx⟩
section
variable {P:Program}{w:World}{K:Frag}{mg:Str->Option Value}{base:Heap}{a:Ad}
theorem dC4 (T:Tx K mg a):D2 P w K mg base CX0 2 a.T6 a.S9 ["_law_drawing"] (spX K cN0):=by
 have J:D2 P w K mg base CX0 1 _ _ _ _:=bL5 T
 refine T.M6.F.ok J7 (dL6 λds d ⟨_,_,_,_,e,_⟩=>by rw[e];rfl) (λcdv A outer s H vs Q E hr h=>?_)
 obtain⟨ds,S,post,hS,r,⟨m,z,tr,D,rfl,rfl⟩,q⟩:=h;refine⟨_,(A3 (psS 1 J7 bD4)
   (A3 (G3 An rfl (G9 rfl T.L4 (A0 (C0 (aZ3 K) (by rfl) T.P9 Bm (A0 (pv 0) A2)) A2)) (pgN 2 J7) (A8 (G3 An rfl (Y6 (B1 (ixK K) (pv 0) (pv 2) (λ_ _=>rfl))) (pgN 3 J7) (A8 (Z7 K hr (pv 1) (D6 (A0 (pv 2) (A0 (pv 3) A2))) (pcl J hr T.k8 (A0 (C4 (A0 (pv 2) (A0 (pv 3) (A0 (B1 (ixK K) (B1 (ixK K) (pv 0) (pv 3) (λ_ _=>rfl)) (B4 N4 (K9 PySem.F.plainAttrs_tuple PySem.F.slot_tuple_index PySem.F.type_tuple_index (aL4 K) (B1 (ixK K) (pv 0) (pv 3) (λ_ _=>rfl)) (A0 (pv 2) A2)) A4) (λ_ _=>rfl)) A2)))) A2)))))))
   (A8 (D0 (pv 1))))),bR2 hS r ?_ q⟩
 have G:=D.good
 have m7:=D.m7
 have hln:(z.map tN).length=m+3:=by rw[Aa3];exact D.len
 refine A9 (aE8 aX1 ?_ (show 1<4 by decide))
 refine A9 (N0 (R9 (j:=((z.map tN).length:Int)) (A1 (S8 (ds:=z.map tN) (A1 v0 A5)) A5) (by lia) (by lia)) (λb ρ=>∃(kvs:List (List Int×PyData)) (x2 M:Sl),(x2.nb=true/\M.nb=true)/\kvs.length<=10*b/\LqOk z kvs/\(∀p q:Nat,p<b->q∈TT.trn z p->atD kvs [(p:Int),(q:Int)]=some (tI (cL (TT.lnd (TT.trn z) p q))))/\ρ=[.val (.tuple (z.map tN)),.tr (.dic kvs),x2,M]) ⟨[],.no,.no,⟨rfl,rfl⟩,by simp,⟨List.nodup_nil,λx hx=>by cases hx⟩,λp q h=>by lia,rfl⟩ ?_ ?_)
 .rintro p d _ hd ⟨kvs,x2,M,⟨b2,b3⟩,hl,hf,hm,rfl⟩;obtain⟨rfl,hp⟩:=S3 hd;have hp:p<m+3:=by lia
  have hpl:=D.tle p
  refine⟨_,B7,?_⟩;show W K _ [.val (.tuple (z.map tN)),.tr (.dic kvs),.val (.int (p:Int)),M] _;refine N0 (aC7 (ds:=nI (TT.trn z p)) (D9 (ds:=z.map tN) v0 v2 rfl (D.at_ hp))) (λj ρ=>∃(Y:List (List Int×PyData)) (M:Sl),M.nb=true/\Y.length<=10*p+j/\LqOk z Y/\(∀R q:Nat,R<p->q∈TT.trn z R->atD Y [(R:Int),(q:Int)]=some (tI (cL (TT.lnd (TT.trn z) R q))))/\(∀q:Nat,q∈(TT.trn z p).take j->atD Y [(p:Int),(q:Int)]=some (tI (cL (TT.lnd (TT.trn z) p q))))/\ρ=[.val (.tuple (z.map tN)),.tr (.dic Y),.val (.int (p:Int)),M]) ⟨kvs,M,b3,by lia,hf,hm,by simp,rfl⟩ ?_ ?_
  .rintro j d _ hd ⟨Y,M,b3,hl2,hf2,hm2,N,rfl⟩;have hjl:j<(TT.trn z p).length:=by have:=(Ab0.mp hd).1;rw[E5]at this;exact this
   unfold nI at hd;rw[Aa9]at hd;obtain⟨U,hq',rfl⟩:=Ap.mp hd;have hq:U∈TT.trn z p:=Aw hq';have hx:=G.sym hq;refine⟨_,B7,?_⟩;show W K _ [.val (.tuple (z.map tN)),.tr (.dic Y),.val (.int (p:Int)),.val (.int (U:Int))] _;obtain⟨n1,n2,n3⟩:=G.th_ne hq;have B:LV.E K false (tOp (rIx K) (D7 0) (D7 3)) [.val (.tuple (z.map tN)),.tr (.dic Y),.val (.int (p:Int)),.val (.int (U:Int))] (tN (TT.trn z U)):=D9 (ds:=z.map tN) v0 v3 rfl (D.at_ (D.lt hx));have hI:LV.E K false _ [.val (.tuple (z.map tN)),.tr (.dic Y),.val (.int (p:Int)),.val (.int (U:Int))] (.int ((((TT.trn z U).map λ(x:Nat)=>(x:Int)).idxOf (p:Int):Nat):Int)):=aS5 (l:=(TT.trn z U).map λ(x:Nat)=>(x:Int)) (k:=(p:Int)) (by rw[<- aU9];exact B) v2 (Aa8.mpr ⟨p,hx,rfl⟩)
   rw[w4 p (TT.trn z U)]at hI;have hth:LV.E K true _ [.val (.tuple (z.map tN)),.tr (.dic Y),.val (.int (p:Int)),.val (.int (U:Int))] (.int (TT.th (TT.trn z) p U:Nat)):=LV.E.imm (m:=false) (D9 (ds:=nI (TT.trn z U)) B (K5 (g:=λi j=>i-j) hI (A7 (i:=1))) rfl (cI1 hx))
   refine aA1 (ks:=[(p:Int),(U:Int)]) (d:=tI (cL (TT.lnd (TT.trn z) p U))) (i:=1) (by
    rw[<- aU3];exact C8 (pre:=bL2) (X:=E0) (A1 (EF.e' (E9 (ds:=[.int (p:Int),.int (U:Int),.int (TT.th (TT.trn z) p U:Int)]) (A1 v2 (A1 v3 (A1 hth A5))))) A5) ⟨[p,U,TT.th (TT.trn z) p U],by simp,by simp,rfl,by rw[cG5 n1 n2 n3];rfl⟩) rfl (F5 (ds:=[.int (p:Int),.int (U:Int)]) (A1 v2 (A1 v3 A5))) (by unfold PySem.sizeLine;lia) ⟨T0 Y [(p:Int),(U:Int)] (tI (cL (TT.lnd (TT.trn z) p U))),.val (.int (U:Int)),rfl,by have:=bN4 Y [(p:Int),(U:Int)] (tI (cL (TT.lnd (TT.trn z) p U)));lia,hf2.put hq,λR q2 h1 h2=>?_,λq2 h2=>?_,rfl⟩
   .rw[bP9,Ac (by simp;lia)];exact hm2 R q2 h1 h2
   .rw[bP9];by_cases e:q2=U
    .rw[e,Ae rfl]
    .rw[Ac (by simp;lia)]
     refine N q2 ?_;rw[Dm,hq']at h2;simp only[Option.toList_some,Aa0,Ad8]at h2;rcases h2 with h2 | h2
     .exact h2
     .exact absurd h2 e
  .rintro _ ⟨Y,M,b3,hl2,hf2,hm2,N,rfl⟩;rw[E5]at hl2 N;rw[Cf]at N;refine⟨Y,_,M,⟨rfl,b3⟩,by lia,hf2,λR q2 h1 h2=>?_,rfl⟩
   by_cases e:R=p
   .subst e;exact N q2 h2
   .exact hm2 R q2 (by lia) h2
 rintro _ ⟨kvs,x2,M,_,hl,hf,hm,rfl⟩;rw[N7,hln,show((m+3:Nat):Int).toNat=m+3 by lia]at hm
 refine aM4 (i:=1) rfl ?_;show W K _ [.val (.tuple (z.map tN)),.val (dD kvs),x2,M] _;rw[aB8 hf.flat];exact L6 v1 ⟨kvs,rfl,hf,by rw[N7,hln]at hl;lia,λp U hq=>hm p U (D.lt hq) hq⟩
end
set_option maxHeartbeats 1000000
def cU5 (ds:List PyData)(d:PyData):Prop:=∃(one other:List (Int×Int)) (p q:Nat),TT.rsn (uA one) (uA other) q p = - TT.rsn (uA one) (uA other) p q/\ds=[.tuple (one.map pD),.tuple (other.map pD),pD ((p:Int),(q:Int))]/\d=.int (TT.rsn (uA one) (uA other) p q)
def alL (m:Nat)(dr:List (List Nat)):List (List Int):=U0 ((TT.rds (TT.trn dr) (m+3)).map cL)
theorem cW6 (m:Nat)(e:List (List Nat)):B8 m e=(alL m e).filter λl=>decide (l≠[0,2,1]):=rfl
def fH2 (H:Nat->Nat->Int)(d:PyData):Option PyData:=if PyData.eqv d (tI [0,2,1]) then none else fHe H d
theorem cY4 {H:Nat->Nat->Int}{L:List (List Int)}(h:∀t∈L,∃x y z:Int,t=[x,y,z]):(L.map tI).filterMap (fH2 H)=((L.filter λl=>decide (l≠[0,2,1])).map (hI H)).map PyData.int:=by
 rw[<- cB8 λt w=>h t (Au.mp w).1,Cm,Cm,List.filterMap_filter]
 refine R3 λt w=>?_
 show(if PyData.eqv (tI t) (tI [0,2,1]) then none else fHe H (tI t))=if decide (t≠[0,2,1])=true then fHe H (tI t) else none
 rw[Y8];by_cases e:t=[0,2,1] <;> simp[e]
theorem dU9 (h:x6.nb=true/\x7.nb=true/\x8.nb=true/\x9.nb=true/\x10.nb=true):M9 [.val a,.val b,.val c,.val d,.tr e,.own f,x6,x7,x8,x9,x10]=true:=by
 show M9 [x6,x7,x8,x9,x10]=true
 rw[aG1 h.1,aG1 h.2.1,aG1 h.2.2.1,aG1 h.2.2.2.1,aG1 h.2.2.2.2];rfl
section
variable {P:Program}{w:World}{K:Frag}{mg:Str->Option Value}{base:Heap}{a:Ad}
theorem dD9 (T:Tx K mg a):D2 P w K mg base CX0 1 a.r9 a.t4 ["_law_one", "_law_other", "_law_way"] (spV K cU5):=by
 refine T.U4.F.ok Z9 (X3 λds d ⟨_,_,_,_,_,e,_⟩=>by rw[e];rfl) (λD A U s H vs Q E hr h=>?_)
 obtain⟨ds,S,d,B,r,⟨one,other,p,z,Y,rfl,rfl⟩,q⟩:=h;refine⟨_,(A3 (psS 3 Z9 (D6 (A0 (B1 (ixK K) (pv 2) A4 (λ_ _=>rfl)) (A0 (B1 (ixK K) (pv 2) A4 (λ_ _=>rfl)) A2))))
   (A3 (O1 (C3 (aE5 K hr) (pv 2) (pv 0) rfl) (A8 (D0 (E3 aB3 (by rfl) T.aY1 boot_int (A0 (aB2 (V0 K hr) (pv 2) (pv 1) rfl) A2)))) F3)
   (A3 (O1 (C3 (aE5 K hr) (pv 3) (pv 0) rfl) (A8 (D0 (B4 N4 A4 (E3 aB3 (by rfl) T.aY1 boot_int (A0 (aB2 (V0 K hr) (pv 3) (pv 1) rfl) A2))))) F3)
   (A8 (D0 A4))))),K8 B r ?_ q⟩
 refine A9 (E7 (d:=pD ((z:Int),(p:Int))) (F5 (ds:=[.int (z:Int),.int (p:Int)]) (A1 (D9 (ds:=[.int (p:Int),.int (z:Int)]) v2 A7 rfl rfl) (A1 (D9 (ds:=[.int (p:Int),.int (z:Int)]) v2 A7 rfl rfl) A5))) ?_);have J:=aV3 (K:=K) (m:=false) (ρ:=[.val (.tuple (one.map pD)),.val (.tuple (other.map pD)),.val (pD ((p:Int),(z:Int))),.val (pD ((z:Int),(p:Int)))]) (ds:=one.map pD) v2 v0 rfl (R5 _).fit (aE3 _);have M:=a8 (K:=K) (m:=false) (ρ:=[.val (.tuple (one.map pD)),.val (.tuple (other.map pD)),.val (pD ((p:Int),(z:Int))),.val (pD ((z:Int),(p:Int)))]) (ds:=other.map pD) v2 v1 rfl (R5 _).fit (aE3 _);have N:=aV3 (K:=K) (m:=false) (ρ:=[.val (.tuple (one.map pD)),.val (.tuple (other.map pD)),.val (pD ((p:Int),(z:Int))),.val (pD ((z:Int),(p:Int)))]) (ds:=one.map pD) v3 v0 rfl (R5 _).fit (aE3 _);have R:=a8 (K:=K) (m:=false) (ρ:=[.val (.tuple (one.map pD)),.val (.tuple (other.map pD)),.val (pD ((p:Int),(z:Int))),.val (pD ((z:Int),(p:Int)))]) (ds:=other.map pD) v3 v1 rfl (R5 _).fit (aE3 _);rw[aR9]at J M N R;unfold TT.rsn uA at Y ⊢;refine A9 (X4 (C5 J) (λh=>?_) (λh=>J5 ?_))
 .refine L6 (bE0 (A1 M A5)) ?_;rw[h];cases decide (((p:Int),(z:Int))∈other) <;> rfl
 refine A9 (X4 (C5 N) (λX=>?_) (λX=>J5 ?_))
 .refine L6 (K5 (g:=λi j=>i-j) (A7 (i:=0)) (bE0 (A1 R A5))) ?_
  rw[h,X]at Y;rw[h]
  revert Y
  cases decide (((z:Int),(p:Int))∈other) <;> cases decide (((p:Int),(z:Int))∈other) <;> simp
 .refine L6 (A7 (i:=0)) ?_;rw[h,X]at Y;rw[h]
  revert Y
  cases decide (((z:Int),(p:Int))∈other) <;> cases decide (((p:Int),(z:Int))∈other) <;> simp
theorem dS1 (T:Tx K mg a):D2 P w K mg base CX0 3 a.u5 a.u9 ["_law_drawing", "_law_one", "_law_other"] (spV K aH3):=by
 have J:D2 P w K mg base CX0 2 _ _ _ _:=dC4 T
 have R:D2 P w K mg base CX0 1 _ _ _ _:=dD9 T
 refine T.w5.F.ok sc__law_heights (X3 λds d ⟨_,_,_,_,_,_,_,_,e,_⟩=>by rw[e];rfl) (λcdv A outer s Hh vs Q E hr h=>?_)
 obtain⟨ds,S,d,hS,r,⟨m,U,tr,one,other,H,dw,po,rfl,rfl⟩,q⟩:=h;refine⟨_,(A3 (psS 3 sc__law_heights (pcl J hr T.M6 (A0 (pv 0) A2)))
   (A3 (aN5 (i:=4) sc__law_heights.nd rfl (Or.inr rfl) (bE3 K hr (D6 (A0 A4 (A0 A4 (A0 A4 A2)))) A4))
   (A3 (psS 5 sc__law_heights (C4 (A0 (D6 (A0 A4 (A0 A4 (A0 A4 A2)))) A2)))
   (A3 (e5 An (C3 aS7 (C0 (aZ3 K) (by rfl) T.P9 Bm (A0 (pv 5) A2)) A4 (F8 _)) (A3 (aM0 (aV2 Ab1 PySem.F.slot_list_pop PySem.F.type_list_pop aT3 (pv 5)) (Y5 (n:=3) rfl (E4 (pgN 6 sc__law_heights) (E4 (pgN 7 sc__law_heights) (E4 (pgN 8 sc__law_heights) S4)))))
   (A8 (G3 An rfl (Y6 (D6 (A0 (D6 (A0 (pv 6) (A0 (pv 7) A2))) (A0 (D6 (A0 (pv 7) (A0 (pv 8) A2))) (A0 (D6 (A0 (pv 8) (A0 (pv 6) A2))) A2))))) (pgN 9 sc__law_heights) (A3 (psS 10 sc__law_heights (B1 (V5 K hr) (pv 3) (D6 (A0 (B1 (ixK K) (pv 9) A4 (λ_ _=>rfl)) (A0 (B1 (ixK K) (pv 9) A4 (λ_ _=>rfl)) A2))) (λ_ _=>rfl)))
   (A8 (O1 (C3 (aO1 K hr) (pv 10) (pv 4) rfl) (A3 (Z7 K hr (pv 4) (pv 10) (B4 N4 (B1 (V5 K hr) (pv 4) (D6 (A0 (pv 6) (A0 (pv 7) (A0 (pv 8) A2)))) (λ_ _=>rfl)) (pcl R hr T.U4 (A0 (pv 1) (A0 (pv 2) (A0 (pv 9) A2))))))
   (A8 (F0 (K9 Ab1 Ah Ag D5 (pv 5) (A0 (pv 10) A2))))) F3)))))))
   (A8 (D0 (E3 (bR5 K) (by rfl) T.M1 boot_tuple (A0 (M3 (T:=["_law_land"]) (N':=["_law_land", "_law_known"]) (is:=[4]) rfl (.of rfl rfl rfl (by exact⟨rfl,trivial⟩) rfl rfl rfl (by exact⟨⟨_,rfl,by first | exact .inl rfl | exact .inr rfl,by first | exact .inl rfl | exact .inr rfl⟩,trivial⟩)) (S7 (C0 (bU0 K rfl) (by rfl) T.Q2 boot_sorted (A0 (pv 4) A2))) (L5 (by decide)) λ_ _ _ _=>⟨(K4 (i:=0) (by decide +kernel:(["_law_land", "_law_known"]:List Str).Nodup) rfl (Or.inl rfl)),(aK3 (C3 (aM1 K hr) (pv 0) (D6 (A0 A4 (A0 A4 (A0 A4 A2)))) (F8 _))),(B1 (V5 K hr) (pv 1) (pv 0) (λ_ _=>rfl))⟩) A2)))))))),K8 hS r ?_ q⟩
 have G:=dw.good
 have m7:=dw.m7
 have m02:2∈TT.trn U 0:=(TT.C7 G.outs.1).1
 have h02:hN H [0,2,1]=0:=by rw[<- aX0 dw,Y7 dw po m02];exact po.z
 refine A9 (aL2 (pre:=cN0) (X:=E0) (A1 v0 A5) ⟨m,U,tr,dw,rfl,rfl⟩ ?_);rintro _ ⟨kl,rfl,lq⟩;have hkl:=lq.at_;refine A9 (aE8 (aR6 (ks:=[0,2,1]) (d:=.int 0) (F5 (ds:=[.int 0,.int 2,.int 1]) (A1 A7 (A1 A7 (A1 A7 A5)))) A7 rfl) ?_ (show 4<11 by decide))
 refine A9 (F9 (ds:=[tN [0,2,1]]) (E9 (A1 (F5 (ds:=[.int 0,.int 2,.int 1]) (A1 A7 (A1 A7 (A1 A7 A5)))) A5)) ?_ (show 5<11 by decide))
 refine A9 (aB0 (λvr ρ=>∃(met wt:List (List Nat)) (D:List (Nat×Nat)) (x6 x7 x8 x9 N:Sl),(vr=2*(16-met.length)+wt.length/\vr<=40)/\(x6.nb=true/\x7.nb=true/\x8.nb=true/\x9.nb=true/\N.nb=true)/\TT.MI (TT.trn U) (λ_ _=>False) 0 2 met D/\(∀l∈wt,l∈met)/\(∀l∈met,l∉wt->∀u∈TT.wys l,u∈D)/\ρ=[.val (.tuple (U.map tN)),.val (.tuple (one.map pD)),.val (.tuple (other.map pD)),.val (.dict (J8 kl)),.tr (.dic (kvH H met)),.own (wt.map tN),x6,x7,x8,x9,N]) ⟨_,[TT.lnd (TT.trn U) 0 2],[TT.lnd (TT.trn U) 0 2],[],.no,.no,.no,.no,.no,⟨rfl,by simp⟩,⟨rfl,rfl,rfl,rfl,rfl⟩,TT.MI.ini m02,λl h=>h,λl h1 h2=>absurd h1 h2,by
  rw[aX0 dw];show _=[_,_,_,_,Sl.tr (.dic [([0,2,1],.int (hN H [0,2,1]))]),_,_,_,_,_,_];rw[h02];rfl⟩ ?_)
 rintro vr ρ' ⟨met,wt,D,x6,x7,x8,x9,N,⟨hv,hv40⟩,hb,M,hw,hD,rfl⟩;have ml:=M.sub G;refine⟨decide (((wt.map tN).length:Int)>0),C5 (aX3 (g:=λi j=>decide (i>j)) (S8 (ds:=wt.map tN) (A1 (K0 (i:=5) rfl) A5)) (A7 (i:=0))),?_⟩
 rw[Aa3];rcases Ac5 wt with rfl | ⟨wt',l0,rfl⟩
 .rw[Aq (by simp),Ac Ai]
  have hall:∀l,l∈met↔l∈TT.rds (TT.trn U) (m+3):=λl=>by
   rw[M.fin G m02 (λl hl=>hD l hl (by simp)),G.rds_mem]
   constructor
   .rintro⟨p,q',h1,h2,_⟩;exact⟨p,q',h1,h2⟩
   .rintro⟨p,q',h1,h2⟩;exact⟨p,q',h1,h2,TT.aR5 G (P:=λp q=>TT.Rc (TT.trn U) (λ_ _=>False) 0 2 p q) (λq x y ha h=>.rot h ha) (λp q hq h=>.cross h hq id) m02 .base p q' h1⟩
  have hmp:met.Perm (TT.rds (TT.trn U) (m+3)):=(List.perm_ext_iff_of_nodup M.nd G.rds_nd).mpr hall
  have hrl:=G.rds_len
  have hml:=hmp.length_eq
  refine aM4 (i:=4) rfl ?_;show W K _ [.val (.tuple (U.map tN)),.val (.tuple (one.map pD)),.val (.tuple (other.map pD)),.val (.dict (J8 kl)),.val (dD (kvH H met)),.own _,x6,x7,x8,x9,N] _;rw[aB8 (aH2 H met)];have k3:∀t∈alL m U,∃x y z:Int,t=[x,y,z]:=λt ht=>by
   obtain⟨l,hl,rfl⟩:=Aa8.mp ((E1 _).mem_iff.mp ht);obtain⟨p,q',_,rfl⟩:=G.rds_mem.mp hl;obtain⟨a,b,c,e,_⟩:=i5 (TT.trn U) p q';rw[e];exact⟨a,b,c,rfl⟩
  have hkk:(kvH H met).map (·.1)=met.map cL:=by unfold kvH;rw[Ae2];rfl
  have hkn:(kvH H met).length=met.length:=by unfold kvH;rw[Aa3]
  have so:=cK4 (K:=K) (kvs:=kvH H met) (ss:=alL m U) (ρ:=[.val (.tuple (U.map tN)),.val (.tuple (one.map pD)),.val (.tuple (other.map pD)),.val (.dict (J8 kl)),.val (.dict (J8 (kvH H met))),.own ((([]:List (List Nat))).map tN),x6,x7,x8,x9,N]) (td:=D7 4) v4 (λx hx=>by
   obtain⟨l,hl,rfl⟩:=Aa8.mp hx;obtain⟨p,q',_,rfl⟩:=G.rds_mem.mp ((hall l).mp hl);obtain⟨a,b,c,e,_⟩:=i5 (TT.trn U) p q';rw[e];simp[cL]) (by lia) (by lia) (by rw[hkk];exact(E1 _).trans (hmp.map cL).symm) (S0 _)
  have hal:(alL m U).length<=20:=by unfold alL;rw[(E1 _).length_eq,Aa3];lia
  have cm:=M4 (K:=K) (m:=true) (n:=1) (is:=[4]) (g:=G7 0) (tt:=bB2 (tOp (bQ3 K true) (D7 0) (bP4 (G1 (tC (.int 0)) (G1 (tC (.int 2)) (G1 (tC (.int 1)) V7)))))) (te:=tOp (aL3 K) (D7 1) (D7 0)) (fH2 H) (Z1 (EF.e' so)) (by rw[Aa3];unfold PySem.sizeLine;lia) (λd hd=>by
   obtain⟨t,ht,rfl⟩:=Aa8.mp hd;obtain⟨l,hl,rfl⟩:=Aa8.mp ((E1 _).mem_iff.mp ht);refine⟨_,B7,?_⟩;have e:=bA8 (K:=K) (m:=false) (ρ:=(slC [.val (.tuple (U.map tN)),.val (.tuple (one.map pD)),.val (.tuple (other.map pD)),.val (.dict (J8 kl)),.val (.dict (J8 (kvH H met))),.own ((([]:List (List Nat))).map tN),x6,x7,x8,x9,N] 1 [4]).set 0 (.val (tI (cL l)))) (d:=tI (cL l)) (d':=tI [0,2,1]) v0 (F5 (ds:=[.int 0,.int 2,.int 1]) (A1 A7 (A1 A7 (A1 A7 A5)))) (FitN.fit (M8 _)) (FitN.fit (M8 _));have e3:fHe H (tI (cL l))=some (.int (hN H l)):=by
    obtain⟨x,y,z,e⟩:=k3 _ ht;rw[show hN H l=hI H (cL l) from rfl,e];rfl
   show match (if PyData.eqv (tI (cL l)) (tI [0,2,1]) then none else fHe H (tI (cL l))) with | none=>_ | some y=>_
   cases h:PyData.eqv (tI (cL l)) (tI [0,2,1]) with
   | true=>rw[h]at e;exact C5 e
   | false=>
    rw[h]at e;rw[Ac Ai,e3];exact⟨C5 e,Q9 (kvs:=kvH H met) (ks:=cL l) v1 v0 (aW1 ((hall l).mpr hl))⟩)
  rw[cY4 k3,<- cW6]at cm;exact L6 (Q0 (A1 (EF.e' cm) A5) (O0 _)) rfl
 .rw[List.concat_eq_append]at *;rw[Bc (by simp),Ae rfl,Ad2]
  have hlm:l0∈met:=hw l0 (by simp)
  obtain⟨p0,q0,hq0,el,_⟩:=M.rc _ hlm;obtain⟨xa,xb,xc,e3,_⟩:=i5 (TT.trn U) p0 q0;have hl0:∀g∈TT.wys l0,g.2∈TT.trn U g.1/\hN H l0=H g.1 g.2:=λg hg=>by
   rw[el]at hg ⊢;have h1:=G.wys_back hq0 hg;refine⟨h1.1,?_⟩;rw[Y7 dw po hq0];have a1:=po.fa _ _ _ (G.th hq0);have a2:=po.fa _ _ _ (G.tri _ _ _ (G.th hq0));rcases (G.wys_lnd hq0).mp hg with rfl | rfl | rfl
   .rfl
   .exact a1
   .exact a1.trans a2
  rw[e3]at el;subst el;refine A9 (dK6 (bE5 (j:=5) (ds:=wt'.map tN) (d:=tN [xa,xb,xc]) rfl (dU9 hb)) (aD1 (ds:=[.int (xa:Int),.int (xb:Int),.int (xc:Int)]) (F6 B7 (F6 B7 (F6 B7 Y4)))) ?_);show W K _ [.val (.tuple (U.map tN)),.val (.tuple (one.map pD)),.val (.tuple (other.map pD)),.val (.dict (J8 kl)),.tr (.dic (kvH H met)),.own (wt'.map tN),.val (.int (xa:Int)),.val (.int (xb:Int)),.val (.int (xc:Int)),x9,N] _;refine N0 (aC7 (ds:=[(xa,xb),(xb,xc),(xc,xa)].map λz=>pD (cI z)) (F5 (A1 (F5 (A1 v6 (A1 v7 A5))) (A1 (F5 (A1 v7 (A1 v8 A5))) (A1 (F5 (A1 v8 (A1 v6 A5))) A5))))) (λu ρ=>∃(Y B:List (List Nat)) (D':List (Nat×Nat)) (x9 N:Sl),(x9.nb=true/\N.nb=true)/\TT.MI (TT.trn U) (λ_ _=>False) 0 2 Y D'/\(∀l∈met,l∈Y)/\2*(16-Y.length)+B.length<vr/\(∀l∈B,l∈Y)/\(∀l∈Y,l∉B->l≠[xa,xb,xc]->∀u∈TT.wys l,u∈D')/\(∀v∈([(xa,xb),(xb,xc),(xc,xa)]:List (Nat×Nat)).take u,v∈D')/\ρ=[.val (.tuple (U.map tN)),.val (.tuple (one.map pD)),.val (.tuple (other.map pD)),.val (.dict (J8 kl)),.tr (.dic (kvH H Y)),.own (B.map tN),.val (.int (xa:Int)),.val (.int (xb:Int)),.val (.int (xc:Int)),x9,N]) ⟨met,wt',D,x9,N,⟨hb.2.2.2.1,hb.2.2.2.2⟩,M,λl h=>h,by rw[hv];simp,λl h=>hw l (by simp[h]),λl h1 h2 h3=>hD l h1 (by simp[h2,h3]),by simp,rfl⟩ ?_ ?_
  .rintro u d _ hd ⟨Y,B,D',x9,N,hb',M',hsub,hlt,hw2,hD2,hDu,rfl⟩;rw[Aa9]at hd;obtain⟨g,hg,rfl⟩:=Ap.mp hd;have hlm':[xa,xb,xc]∈Y:=hsub _ hlm;have hgw:g∈TT.wys [xa,xb,xc]:=by
    have:=Aw hg
    simp[TT.wys]at this ⊢
    rcases this with h | h | h <;> simp[h]
   obtain⟨gt,hg0⟩:=hl0 g hgw;have ml':=M'.sub G;have tk:∀v,v∈([(xa,xb),(xb,xc),(xc,xa)]:List (Nat×Nat)).take (u+1)->v∈([(xa,xb),(xb,xc),(xc,xa)]:List (Nat×Nat)).take u\/v=g:=λv hx=>by
    rw[Dm,hg]at hx;simpa using hx
   refine⟨_,B7,?_⟩;refine A9 (E7 (d:=tI (cL (TT.lnd (TT.trn U) g.2 g.1))) (Q9 (kvs:=kl) (ks:=[(g.2:Int),(g.1:Int)]) v3 (F5 (ds:=[.int (g.2:Int),.int (g.1:Int)]) (A1 (D9 (ds:=[.int (g.1:Int),.int (g.2:Int)]) (A6 (i:=9) rfl) A7 rfl rfl) (A1 (D9 (ds:=[.int (g.1:Int),.int (g.2:Int)]) (A6 (i:=9) rfl) A7 rfl rfl) A5))) (hkl g.2 g.1 (G.sym gt)) (l8 _)) ?_);show W K _ [.val (.tuple (U.map tN)),.val (.tuple (one.map pD)),.val (.tuple (other.map pD)),.val (.dict (J8 kl)),.tr (.dic (kvH H Y)),.own (B.map tN),.val (.int (xa:Int)),.val (.int (xb:Int)),.val (.int (xc:Int)),.val (pD (cI g)),.val (tI (cL (TT.lnd (TT.trn U) g.2 g.1)))] _;have t3:=cC0 (K:=K) (m:=false) (neg:=true) (i:=4) (kvs:=kvH H Y) (ks:=cL (TT.lnd (TT.trn U) g.2 g.1)) (ρ:=[.val (.tuple (U.map tN)),.val (.tuple (one.map pD)),.val (.tuple (other.map pD)),.val (.dict (J8 kl)),.tr (.dic (kvH H Y)),.own (B.map tN),.val (.int (xa:Int)),.val (.int (xb:Int)),.val (.int (xc:Int)),.val (pD (cI g)),.val (tI (cL (TT.lnd (TT.trn U) g.2 g.1)))]) (A6 (i:=10) rfl) rfl;rw[bW2]at t3;refine X4 (C5 t3) (λh2=>?_) (λh2=>J5 ?_)
   .have hn:TT.lnd (TT.trn U) g.2 g.1∉Y:=by simpa using h2
    have M2:=M'.add G hlm' hgw id hn
    have ml2:=M2.sub G
    rw[Ab7]at ml2;have hdd:LV.E K false (D7 4) [.val (.tuple (U.map tN)),.val (.tuple (one.map pD)),.val (.tuple (other.map pD)),.val (.dict (J8 kl)),.tr (.dic (kvH H Y)),.own (B.map tN),.val (.int (xa:Int)),.val (.int (xb:Int)),.val (.int (xc:Int)),.val (pD (cI g)),.val (tI (cL (TT.lnd (TT.trn U) g.2 g.1)))] (.dict (J8 (kvH H Y))):=by
     rw[<- aB8 (aH2 H Y)];exact dT5 (i:=4) (t:=.dic (kvH H Y)) rfl
    have s1:=po.st _ _ gt
    have s2:=po.st _ _ (G.sym gt)
    have hvv:hN H (TT.lnd (TT.trn U) g.2 g.1)=hN H [xa,xb,xc]-TT.rsn (uA one) (uA other) g.1 g.2:=by
     rw[Y7 dw po (G.sym gt),hg0];exact s1
    have ev:=K5 (K:=K) (m:=true) (g:=λi j=>i-j) (Q9 (m:=false) (ks:=cL [xa,xb,xc]) (d:=.int (hN H [xa,xb,xc])) hdd (F5 (ds:=[.int (xa:Int),.int (xb:Int),.int (xc:Int)]) (A1 v6 (A1 v7 (A1 v8 A5)))) (aW1 hlm')) (C8 (pre:=cU5) (X:=E0) (A1 v1 (A1 v2 (A1 (A6 (i:=9) rfl) A5))) ⟨one,other,g.1,g.2,by lia,rfl,rfl⟩)
    rw[<- hvv]at ev;refine A9 (aA1 (ks:=cL (TT.lnd (TT.trn U) g.2 g.1)) (i:=4) ev rfl (A6 (i:=10) rfl) (by unfold kvH;rw[Aa3];unfold PySem.sizeLine;lia) ?_)
    show W K _ [.val (.tuple (U.map tN)),.val (.tuple (one.map pD)),.val (.tuple (other.map pD)),.val (.dict (J8 kl)),.tr (.dic (T0 (kvH H Y) (cL (TT.lnd (TT.trn U) g.2 g.1)) (.int (hN H (TT.lnd (TT.trn U) g.2 g.1))))),.own (B.map tN),.val (.int (xa:Int)),.val (.int (xb:Int)),.val (.int (xc:Int)),.val (pD (cI g)),.val (tI (cL (TT.lnd (TT.trn U) g.2 g.1)))] _
    rw[bY9 hn];refine K2 (i:=5) (d:=tI (cL (TT.lnd (TT.trn U) g.2 g.1))) rfl (A6 (i:=10) rfl) (by rw[Aa3];unfold PySem.sizeLine;lia) ⟨Y++[TT.lnd (TT.trn U) g.2 g.1],B++[TT.lnd (TT.trn U) g.2 g.1],D'++[g],.val (pD (cI g)),.val (tI (cL (TT.lnd (TT.trn U) g.2 g.1))),⟨rfl,rfl⟩,M2,λl h=>Al _ (hsub l h),?_,λl h=>?_,λl h1 h2 h3 v hv=>?_,λv hv=>?_,?_⟩
    .rw[Ab7,Ab7];simp at ml2 ⊢;lia
    .rcases Aa0.mp h with h | h
     .exact Al _ (hw2 l h)
     .exact Ac1 _ h
    .rcases Aa0.mp h1 with h1 | h1
     .exact Al _ (hD2 l h1 (λz=>h2 (Al _ z)) h3 v hv)
     .exact absurd (Ac1 _ h1) h2
    .rcases tk v hv with h | rfl
     .exact Al _ (hDu v h)
     .simp
    .rw[Ad2,<- aU3];rfl
   .have hn:TT.lnd (TT.trn U) g.2 g.1∈Y:=by simpa using h2
    refine⟨Y,B,D'++[g],_,_,⟨rfl,rfl⟩,M'.skip G hlm' hgw (.inr hn),hsub,hlt,hw2,λl h1 h2 h3 v hv=>Al _ (hD2 l h1 h2 h3 v hv),λv hv=>?_,rfl⟩
    rcases tk v hv with h | rfl
    .exact Al _ (hDu v h)
    .simp
  .rintro _ ⟨Y,B,D',x9,N,hb',M',hsub,hlt,hw2,hD2,hDu,rfl⟩;refine⟨_,hlt,Y,B,D',_,_,_,x9,N,⟨rfl,by lia⟩,⟨rfl,rfl,rfl,hb'.1,hb'.2⟩,M',hw2,λl h1 h2 v hv=>?_,rfl⟩
   by_cases h3:l=[xa,xb,xc]
   .refine hDu v ?_;rw[h3]at hv
    simp[TT.wys]at hv ⊢
    rcases hv with h | h | h <;> simp[h]
   .exact hD2 l h1 h2 h3 v hv
end
end K34
namespace L2
open PySem PySem.Spec PySem.W PyProof.Rows
section
variable {X:Cx}{aA:Eg}{σ:St}{H:Hp}{s:Shared}{a:Addr}
theorem Inv.view (I:Inv X aA σ H s)(e:H a=some o1)(J:∀x,o1≠.own x)(U:∀xs,o1≠.tup xs)(M:∀ps,o1≠.tbl ps)(N:∀o u,X.H₀ a≠some (.frz o u))(k:ObjOk X.prog X.w (upd H a o2) s.heap a o2):Inv X aA σ (upd H a o2) s:=by
 have ne:∀{b},H b=none->b≠a:=λ{b} z y=>by rw[y,e]at z;cases z
 have no:∀{b},H b=none->upd H a o2 b=none:=λ{b} z=>by rw[B0 (ne z)];exact z
 refine⟨I.ok,I.os,I.bare,⟨I.base.keep,I.base.slot,λb o q n x=>no (I.base.free b o q n x),I.base.there,λb xs q=>?_,λb o u q=>?_,λb ps q=>?_⟩,I.loc,I.cell,no I.free,λx c q=>no (I.freeC x c q),λp hp=>?_,λb o q=>?_,I.len⟩
 .have z:=I.base.tups b xs q
  have:b≠a:=λy=>by rw[y,e]at z;exact U xs (Ab4 z)
  rw[B0 this];exact z
 .have z:=I.base.frzs b o u q
  have:b≠a:=λy=>by rw[y]at q;exact N o u q
  rw[B0 this];exact z
 .obtain⟨m,z⟩:=I.base.tbls b ps q
  have:b≠a:=λy=>by rw[y,e]at z;exact M _ (Ab4 z)
  exact⟨m,by rw[B0 this];exact z⟩
 .obtain⟨R,Q,D⟩:=I.pin p hp;exact⟨R,no Q,D⟩
 .by_cases Y:b=a
  .subst Y;rw[B3]at q;cases q;exact k
  .rw[B0 Y]at q;refine(I.hok b o q).stay (λc v _ z=>z) (λc z=>?_) λc xs z=>?_
   .have:c≠a:=λy=>by rw[y,e]at z;exact J _ (Ab4 z)
    rw[B0 this];exact z
   .have:c≠a:=λy=>by rw[y,e]at z;exact U _ (Ab4 z)
    rw[B0 this];exact z
end
def Ikd (a:Addr)(od:Obj)(kv:List (List Int×Addr×V)):It:=
 ⟨λi H=>H a=some (.frz od (dicO a kv))/\i<kv.length,λi H v H'=>∃z,kv[i]? = some z/\v=.ref z.2.1/\H'=H,λi H=>H a=some (.frz od (dicO a kv))/\i=kv.length⟩
theorem cG6 {P:Program}{w:World}{K:Frag}{tg:Expr}{a it:Addr}{od:Obj}{kv:List (List Int×Addr×V)}{xs:List (List Int×Addr×Value)}{es:Array DictEntry}{ep:Nat}(U:od.cls=.type "dict")(J:od.data=.dict es ep)(r:KvR kv xs)(h4:es.toList=xs.map dEnt):aY8 P w K tg (Ikd a od kv) [it] it (λi h=>h.IsKeyIter it a i es.size ep) where
 mem:=by simp
 obj:=λi h st b m=>by
  have e:b=it:=by simpa using m
  subst e;obtain⟨o,e,c,d⟩:=st;exact⟨o,e,λv z=>by rw[d]at z;cases z⟩
 keep:=λi h R st k=>st.at λo e=>k it (by simp) o e
 item:=by
  intro X hP hw hK hc i aA s σ H E I Q st hg;subst hP hw hK;obtain⟨hq,hi⟩:=hg;have Y:RawD s.heap a es ep:=⟨od,(I.hok a _ hq).1,U,J⟩;have hz:=aT2 r h4;obtain⟨F,f1,f2,f3,B,f5⟩:=Q it (by simp)
  have rv:Vals (kv.map λx=>V.ref x.2.1) (es.toList.map (·.key)):=by
   rw[h4,Ae2];exact KvR.refs r
  have M:i<es.size:=by lia
  obtain⟨u,D,ru⟩:=rv.get (i:=i) (x:=.ref kv[i].2.1) (by rw[Aa9,Aa2 hi];rfl)
  rw[Aa9,Cj,Af M]at D;have D:es[i].key=u:=Ab4 D;refine bC0 st Y M λR N sb=>?_
  have I1:Inv X aA σ H {s with heap:=R}:=I.turned (t':=s.toks) (λb o m e=>(sb.2 b m).trans e) F f1 f3 B f5
  obtain⟨o,e,c,d⟩:=id N;rw[D];exact⟨u,rfl,cD0 (s:={s with heap:=R}) e c d (by decide) ⟨.ref kv[i].2.1,H,I1,ru,⟨_,Aa2 hi,rfl,rfl⟩,N,λb m=>(Q b m).1⟩⟩
 done:=by
  intro X hP hw hK hc i aA s σ H E I Q st hg;subst hP hw hK;obtain⟨hq,hi⟩:=hg;have Y:RawD s.heap a es ep:=⟨od,(I.hok a _ hq).1,U,J⟩;have hz:=aT2 r h4;obtain⟨F,f1,f2,f3,B,f5⟩:=Q it (by simp)
  have hi:i=es.size:=by lia
  subst hi;exact bK2 (I.ok.hd hc) st Y λR eb=>⟨rfl,I.turned (t':=s.toks) (λb o m e=>eb b o m e) F f1 f3 B f5⟩
 self:=λ_ _ _ _ _ st h=>wpAny_pyIter_keyiter st h
section
variable {X:Cx}{tg:Expr}
def Fz (a:Addr)(od:Obj)(kv:List (List Int×Addr×V))(H1 H2:Hp):Prop:=(H1 a=some (.frz od (dicO a kv))/\H2=H1)\/(H1 a=some (dicO a kv)/\H2=upd H1 a (.frz od (dicO a kv)))
def bT9 (tl:TE):TI:=λσ H R=>tl σ H λx H1=>∃a kv,x=.ref a/\Rd H1 a (dicO a kv)/\∀od H2,Fz a od kv H1 H2->R (Ikd a od kv) H2
theorem bN2 {l:Expr}{tl:TE}(hl:PE X l tl):PI X tg l (bT9 tl):=by
 refine⟨?_⟩;intro Q s σ H R I h;refine thn (hl Q s σ H _ I h) λv m ⟨x,H1,U,r1,q1⟩=>?_
 obtain⟨a,kv,e,w,q⟩:=q1;subst e;cases r1;have J:=bU7 U w;obtain⟨⟨xs,r,z,hd,o,es,P,h1,F,B,h4,h5⟩,_⟩:=id J;have N:RawD m.heap a es P:=⟨o,h1,F.1,B⟩;obtain⟨Y,fz,M⟩:∃Y,Fz a o kv H1 Y/\Inv X Q σ Y m:=by
  rcases w with w | ⟨o',w⟩
  .exact⟨_,.inr ⟨w,rfl⟩,U.view w (λ_ z=>by cases z) (λ_ z=>by cases z) (λ_ z=>by cases z) (λo u z=>by have:=U.base.frzs a o u z;rw[w]at this;cases this) ⟨h1,J.stay (λc v _ z=>z) (λc z=>by
    have:c≠a:=λy=>by rw[y,w]at z;cases z
    rw[B0 this];exact z) λc xs z=>by
    have:c≠a:=λy=>by rw[y,w]at z;cases z
    rw[B0 this];exact z⟩⟩
  .have D:m.heap.get? a=some o':=(U.hok a _ w).1
   rw[h1]at D;cases D;exact⟨_,.inl ⟨w,rfl⟩,U⟩
 refine bA6 hd N ?_;refine⟨m.heap.objs.size,[m.heap.objs.size],_,_,Y,rfl,M.kept (t':=m.toks) λb o e=>Aa6 _ e,cG6 F.1 B r h4,⟨_,Ac3 _ rfl,rfl,rfl⟩,λb hb=>?_,q o Y fz⟩
 have e:b=m.heap.objs.size:=by simpa using hb
 subst e;exact M.fpOk (Aa7 _) (M.hok.fresh (Aa7 _))
def Unf (H H' H'':Hp):Prop:=H''=H'\/∃a od kv,H a=some (dicO a kv)/\H' a=some (.frz od (dicO a kv))/\H''=upd H' a (dicO a kv)
theorem Inv.unf (I:Inv X aA σ H s)(m:Inv X aA σ' H' s')(u:Unf H H' H''):Inv X aA σ' H'' s':=by
 rcases u with rfl | ⟨a,U,kv,Y,e,rfl⟩
 .exact m
 have ok:ObjOk X.prog X.w H' s'.heap a (dicO a kv):=(m.hok a _ e).2
 refine m.view e (λ_ z=>by cases z) (λ_ z=>by cases z) (λ_ z=>by cases z) (λo u z=>by have:=I.base.frzs a o u z;rw[Y]at this;cases this) (ok.stay (λc v _ z=>z) (λc z=>?_) λc xs z=>?_)
 .have:c≠a:=λy=>by rw[y,e]at z;cases z
  rw[B0 this];exact z
 .have:c≠a:=λy=>by rw[y,e]at z;cases z
  rw[B0 this];exact z
def dR9 (t:TE):TE:=λσ H Q=>t σ H λv H'=>∃H'',Unf H H' H''/\Q v H''
theorem dH9 (h:PE X e t):PE X e (dR9 t):=by
 refine⟨?_⟩;intro z s σ H Q I q;refine thn (h z s σ H _ I q) λv J ⟨x,H1,w,Y,U,u,m⟩=>?_
 exact⟨x,_,I.unf w u,Y,m⟩
def dQ1 (t:TS):TS:=λD σ H=>t {D with nx:=λσ' H'=>∃H'',Unf H H' H''/\D.nx σ' H''} σ H
theorem dN5 (h:PS X e t):PS X e (dQ1 t):=by
 refine⟨?_⟩;intro m s σ H D I q;refine thn (h m s σ H _ I q) λf M h1=>?_
 cases f with
 | next=>
  obtain⟨U,J,z,w,u,Y⟩:=h1;exact⟨U,w,I.unf z u,Y⟩
 | brk=>exact h1
 | cont=>exact h1
 | ret u=>exact h1
end
end L2
namespace LV
open PySem L2
section
variable {K:Frag}{Z Z':Hp}
theorem cT4 (hr:∀b u,Rd Z b u->(∀o w,u≠.frz o w)->Rd Z' b u):∀{d:PyData},bF2 K Z v d->bF2 K Z' v d
 | .none,r | .bool _,r | .int _,r | .str _,r=>r
 | .tuple _,⟨a,l,e,m,s⟩=>⟨a,l,e,m,s.imp (λz=>hr _ _ z λ_ _ y=>by cases y) id⟩
 | .list _,r | .dict _,r=>r
theorem bE7 (hr:∀b u,Rd Z b u->(∀o w,u≠.frz o w)->Rd Z' b u)(r:KvF K Z kv kvs):KvF K Z' kv kvs:=by
 unfold KvF at *;induction r with
 | nil=>exact .nil
 | cons a _ e=>exact .cons ⟨a.1,a.2.1.imp (λz=>hr _ _ z λ_ _ y=>by cases y) id,cT4 hr a.2.2⟩ e
mutual
theorem aQ6 (hr:∀b u,Rd Z b u->(∀o w,u≠.frz o w)->Rd Z' b u)(he:∀b C,Z b=some (excO b C)->Z' b=some (excO b C)):∀(d:PyData) {v:V},Rep K Z v d->Rep K Z' v d
 | .none,_,r=>by cases r;exact .non
 | .bool _,_,r=>by cases r;exact .bl _
 | .int _,_,r=>by cases r;exact .int _
 | .str _,_,r=>by cases r;exact .str _
 | .tuple ds,_,r=>by cases r with | tup s rs=>exact .tup (s.imp (λz=>hr _ _ z λ_ _ y=>by cases y) id) (X2 hr he ds rs)
 | .list ds,_,r=>by cases r with | lst s rs=>exact .lst (s.imp (λz=>hr _ _ z λ_ _ y=>by cases y) id) (X2 hr he ds rs)
 | .dict _,_,r=>by
  cases r with
  | exc e=>exact .exc (he _ _ e)
  | ptr=>exact .ptr
  | adr=>exact .adr
  | dic e r z=>exact .dic (hr _ _ e λ_ _ y=>by cases y) (bE7 hr r) z
theorem X2 (hr:∀b u,Rd Z b u->(∀o w,u≠.frz o w)->Rd Z' b u)(he:∀b C,Z b=some (excO b C)->Z' b=some (excO b C)):∀(ds:List PyData) {vs:List V},Reps K Z vs ds->Reps K Z' vs ds
 | [],_,r=>by cases r;exact .nil
 | d::ds,_,r=>by cases r with | cons a b=>exact .cons (aQ6 hr he d a) (X2 hr he ds b)
end
variable {H H':Hp}
mutual
theorem cH4 (hr:∀b u,Rd Z b u->(∀o w,u≠.frz o w)->Rd Z' b u)(he:∀b C,Z b=some (excO b C)->Z' b=some (excO b C))(z:∀a xs,Rd H a (.tup xs)->Rd H' a (.tup xs)):∀(t:OT) {v:V} {L:List Addr},(∀b∈L,H' b=H b)->Dp K Z H v t L->Dp K Z' H' v t L
 | .leaf d,_,_,_,r=>by cases r with | leaf r=>exact .leaf (aQ6 hr he _ r)
 | .tup ts,_,_,e,r=>by cases r with | tup s r=>exact .tup (s.imp (z _ _) id) (bF1 hr he z ts e r)
 | .lst ts,_,_,e,r=>by
  cases r with
  | lst s r=>exact .lst (by rw[e _ (by simp)];exact s) (bF1 hr he z ts (λb h=>e b (by simp[h])) r)
 | .dic kvs,_,_,e,r=>by
  cases r with
  | dic s k m Y=>exact .dic (by rw[e _ (by simp)];exact s) k (X2 hr he _ m) (X2 hr he _ Y)
theorem bF1 (hr:∀b u,Rd Z b u->(∀o w,u≠.frz o w)->Rd Z' b u)(he:∀b C,Z b=some (excO b C)->Z' b=some (excO b C))(e:∀a xs,Rd H a (.tup xs)->Rd H' a (.tup xs)):∀(ts:List OT) {vs:List V} {L:List Addr},(∀b∈L,H' b=H b)->Dps K Z H vs ts L->Dps K Z' H' vs ts L
 | [],_,_,_,r=>by cases r;exact .nil
 | t::ts,_,_,hl,r=>by
  cases r with
  | cons a b=>exact .cons (cH4 hr he e t (λb h=>hl b (by simp[h])) a) (bF1 hr he e ts (λb h=>hl b (by simp[h])) b)
end
end
section
variable {K:Frag}{ρ:List Sl}{S:Addr->Prop}{B B' H H':Hp}{σ:St}{o:Nat->List Addr}{a:Addr}{kv:List (List Int×Addr×V)}{kvs:List (List Int×PyData)}
structure Chg (a:Addr)(H H':Hp):Prop where
 ne:∀b,b≠a->H' b=H b
 rd:∀u,Rd H a u->(∀o w,u≠.frz o w)->Rd H' a u
 ex:∀C,H a≠some (excO a C)
theorem Chg.hr (c:Chg a H H')(s:¬S a):∀b u,Rd (hid S H) b u->(∀o w,u≠.frz o w)->Rd (hid S H') b u:=λb u r m=>by
 by_cases z:b=a
 .subst z;have h:=c.rd u (O7 H9 r) m;rcases h with h | ⟨o,h⟩
  .exact .inl (hid_some.mpr ⟨s,h⟩)
  .exact .inr ⟨o,hid_some.mpr ⟨s,h⟩⟩
 .have e:hid S H' b=hid S H b:=by unfold hid;rw[c.ne b z]
  unfold Rd;rw[e];exact r
theorem Chg.he (c:Chg a H H'){S:Addr->Prop}:∀b C,hid S H b=some (excO b C)->hid S H' b=some (excO b C):=λb C r=>by
 obtain⟨h1,e⟩:=hid_some.mp r;have w:b≠a:=λz=>by subst z;exact c.ex C e
 exact hid_some.mpr ⟨h1,by rw[c.ne b w];exact e⟩
theorem Chg.no (c:Chg a H H'):∀b u,Rd H b u->(∀o w,u≠.frz o w)->Rd H' b u:=λb u r z=>by
 by_cases e:b=a
 .subst e;exact c.rd u r z
 .unfold Rd;rw[c.ne b e];exact r
theorem Chg.ho (c:Chg a H H'):∀b C,H b=some (excO b C)->H' b=some (excO b C):=λb C e=>by
 have w:b≠a:=λz=>by subst z;exact c.ex C e
 rw[c.ne b w];exact e
theorem Env.chg (I:Env K S B H σ ρ o)(c:Chg a H H')(s:¬C9 ρ o S a)(N:Same B' H')(Y:∀b,S b->∃u:HM,B' b=some u.ho)(w:∀(i:Nat) (x:Sl),ρ[i]? = some x->x.os=true->∀b∈o i,B' b=none):Env K S B' H' σ ρ o:=by
 have X:∀(i:Nat) (x:Sl),ρ[i]? = some x->x.os=true->∀b∈o i,H' b=H b:=λi x h1 e b m=>c.ne b λz=>s (by subst z;exact .inr ⟨i,x,h1,e,m⟩)
 refine⟨I.len,N,Y,w,I.inj,λi ds z=>?_,λi d z=>?_,λi d z=>?_,λi t z=>?_⟩
 .obtain⟨p,h1,e,xs,J,M⟩:=I.own i ds z;exact⟨p,h1,e,xs,by rw[X i _ z rfl p (by rw[h1];simp)];exact J,X2 (c.hr s) c.he _ M⟩
 .obtain⟨v,h1,e⟩:=I.val i d z;exact⟨v,h1,aQ6 (c.hr s) c.he _ e⟩
 .obtain⟨v,h1,e⟩:=I.bor i d z;exact⟨v,h1,aQ6 c.no c.ho _ e⟩
 .obtain⟨U,v,h1,e⟩:=I.tr i t z;exact⟨U,v,h1,cH4 (c.hr s) c.he (λb xs r=>c.no b _ r λ_ _ y=>by cases y) t (λb m=>X i _ z rfl b m) e⟩
theorem dB1 {b C:Addr}:L2.dicO a kv≠excO b C:=λh=>HM.nx (u:=.x a kv) h
theorem cH7 (f:Fz a od kv H H2):H2 a=some (.frz od (dicO a kv))/\Chg a H H2:=by
 rcases f with⟨h,rfl⟩ | ⟨h,rfl⟩
 .exact⟨h,λ_ _=>rfl,λ_ r _=>r,λC z=>by rw[h]at z;cases z⟩
 .refine⟨B3,λb e=>B0 e,λu r w=>?_,λC z=>by rw[h]at z;exact dB1 (Ab4 z)⟩
  rcases r with r | ⟨o,r⟩
  .rw[h]at r;cases r;exact .inr ⟨od,B3⟩
  .rw[h]at r;cases r
theorem aU8 (h:H a=some (.frz od (dicO a kv))):Chg a H (upd H a (dicO a kv)):=by
 refine⟨λb e=>B0 e,λu r w=>?_,λC z=>by rw[h]at z;cases z⟩
 rcases r with r | ⟨o,r⟩
 .rw[h]at r;cases r;exact absurd rfl (w _ _)
 .rw[h]at r;cases r;exact .inl B3
theorem cO9 {j:Nat}{y:List Int×PyData}(k:KvF K H kv kvs)(h:kvs[j]? = some y):∃z,kv[j]? = some z/\z.1=y.1/\SqT K H z.2.1 (z.1.map V.int):=by
 unfold KvF at k;induction k generalizing j with
 | nil=>simp at h
 | cons a _ e=>
  cases j with
  | zero=>simp at h;subst h;exact⟨_,rfl,a.1,a.2.1⟩
  | succ j=>exact e (by simpa using h)
theorem cC2 (k:KvF K H kv kvs):kv.length=kvs.length:=by
 unfold KvF at k;induction k with
 | nil=>rfl
 | cons a _ e=>simp[e]
theorem dG4 (hs:ρ[i]? = some (.val (.dict (J8 kvs))))(P:Nat->List Sl->Prop)(h0:P 0 ρ)
  (turn:∀j y ρ',kvs[j]? = some y->P j ρ'->∃ρ'',G K true g (.tuple (y.1.map PyData.int)) ρ' ρ''/\W K tb ρ'' {nx:=P (j+1),ct:=P (j+1)}) (hn:∀ρ',P kvs.length ρ'->R.nx ρ') :
  W K (dQ1 (dN1 (bT9 (D7 i)) g tb)) ρ R:=λS B D σ H o N s=>by
 obtain⟨v,hv,r⟩:=N.val i _ hs;obtain⟨a,kv,rfl,ha,k⟩:=aR1 r;have na:¬C9 ρ o S a:=by rcases ha with h | ⟨_,h⟩ <;> exact(hid_some.mp h).1
 have nn:¬aP2 ρ o a:=λz=>na (.inr z)
 refine⟨.ref a,hv,a,kv,rfl,O7 H9 ha,λod M fz=>?_⟩
 obtain⟨f1,c1⟩:=cH7 fz;have ob:∀b,b≠a->∀x,B b=some x->hid (aP2 ρ o) M b=some x:=λb X x e=>hid_some.mpr ⟨(λ⟨j,y,z,hy,hm⟩=>by rw[N.new j y z hy b hm]at e;cases e),by rw[c1.ne b X];exact N.base _ _ e⟩
 have I1:Env K S (hid (aP2 ρ o) M) M σ ρ o:=N.chg c1 na H9 (λb z=>by
  obtain⟨u,e⟩:=N.sl b z;exact⟨u,ob b (λy=>na (.inl (by rw[<- y];exact z))) _ e⟩) λj x h1 h2 b X=>by unfold hid;exact Ae ⟨j,x,h1,h2,X⟩
 have k2:KvF K (hid (aP2 ρ o) M) kv kvs:=aS4 (D8 (L2.Same.rf _) λb z _=>.inr z) (bE7 (c1.hr na) k)
 have Y:hid (aP2 ρ o) M a=some (.frz od (dicO a kv)):=hid_some.mpr ⟨nn,f1⟩
 generalize hB:hid (aP2 ρ o) M=B' at I1 ob k2 Y;have hlen:=cC2 k;refine⟨λj m σ' H'=>j<=kvs.length/\m=kvs.length-j/\∃ρ' Q,Env K S B' H' σ' ρ' Q/\P j ρ',⟨_,Ci _,rfl,ρ,o,I1,h0⟩,?_⟩
 rintro j m σ' H' ⟨hl,rfl,ρ',Q,U,p⟩;have J:=U.base _ _ Y;by_cases c:j=kvs.length
 .refine .inl ⟨⟨J,by rw[hlen];exact c⟩,?_⟩
  subst c;rcases fz with⟨q,e⟩ | ⟨q,e⟩
  .refine⟨H',.inl rfl,s.nx ρ' σ' H' Q ?_ (hn _ p)⟩;subst e;have sb:Same B B':=λb x e=>by
    by_cases X:b=a
    .subst X;rw[Y,<- q];exact N.base _ _ e
    .exact ob b X x e
   exact⟨U.len,L2.Same.tr sb U.base,N.sl,λi x h1 h2 b X=>O4 sb (U.new i x h1 h2 b X),U.inj,U.own,U.val,U.bor,U.tr⟩
  .refine⟨_,.inr ⟨a,od,kv,q,J,rfl⟩,s.nx ρ' σ' _ Q ?_ (hn _ p)⟩;have na':¬C9 ρ' Q S a:=λz=>by
    rcases z with z | ⟨j,x,h1,h2,X⟩
    .exact na (.inl z)
    .rw[U.new j x h1 h2 a X]at Y;cases Y
   refine U.chg (aU8 J) na' (λb x e'=>?_) N.sl λj x h1 h2 b X=>?_
   .by_cases X:b=a
    .rw[X]at e' ⊢;rw[B3,<- q];exact N.base _ _ e'
    .rw[B0 X];exact U.base _ _ (ob b X x e')
   .have z:=U.new j x h1 h2 b X
    cases e:B b with
    | none=>rfl
    | some y=>
     by_cases hb':b=a
     .subst hb';rw[Y]at z;cases z
     .rw[ob b hb' y e]at z;cases z
 .have hlt:j<kvs.length:=by lia
  have hd:kvs[j]? = some kvs[j]:=Aa2 hlt
  obtain⟨ρ'',hg,X⟩:=turn j kvs[j] ρ' hd p;refine .inr ⟨⟨J,by lia⟩,λσ2 M=>∃ρ2 o2,Env K S B' M σ2 ρ2 o2/\P (j+1) ρ2,λσ2 M ⟨ρ2,o2,I2,p2⟩=>⟨_,by lia,hlt,rfl,ρ2,o2,I2,p2⟩,?_⟩
  rintro x F ⟨z,hz,rfl,rfl⟩;obtain⟨z',hz',e1,e2⟩:=cO9 k2 hd;rw[hz]at hz';cases hz';have rx:Rep K (hid (C9 ρ' Q S) F) (.ref z.2.1) (.tuple (kvs[j].1.map PyData.int)):=U.imm (by simp[imm,aT1]) (.tup (D3 U.base (by rw[<- e1];exact e2)) (M0 _))
  refine hg.2 S B' σ' F Q U _ rx _ λσ2 I2=>X S B' _ σ2 F Q I2 ⟨λρ3 σ3 H3 o3 I3 w=>⟨ρ3,o3,I3,w⟩,λv d H3 a b w=>w.elim,λp xs es H3 a b c e w=>w.elim,λρ3 σ3 H3 o3 I3 w=>w.elim,λρ3 σ3 H3 o3 I3 w=>⟨ρ3,o3,I3,w⟩⟩
theorem cK6 (f:PyData->Option PyData)(hs:ρ[i]? = some (.val (.dict (J8 kvs))))(hl:kvs.length<sizeLine)(body:∀y∈kvs,aY8 K true (slC ρ n is) g tt te (.tuple (y.1.map PyData.int)) (f (.tuple (y.1.map PyData.int)))) :
  EF K (dR9 (bN5 (bT9 (D7 i)) n is g tt te)) ρ (kvs.filterMap λy=>f (.tuple (y.1.map PyData.int))):=λS B σ H o N Q q=>by
 obtain⟨v,hv,r⟩:=N.val i _ hs;obtain⟨a,kv,rfl,ha,k⟩:=aR1 r;have na:¬C9 ρ o S a:=by rcases ha with h | ⟨_,h⟩ <;> exact(hid_some.mp h).1
 refine⟨.ref a,hv,a,kv,rfl,O7 H9 ha,λod H1 fz=>?_⟩
 obtain⟨f1,R⟩:=cH7 fz;have I1:Env K S (hid (aP2 ρ o) H1) H1 σ ρ o:=N.chg R na H9 (λb z=>by
  obtain⟨u,e⟩:=N.sl b z;have w:b≠a:=λy=>na (.inl (by rw[<- y];exact z))
  exact⟨u,hid_some.mpr ⟨(λ⟨j,y,z,hy,hm⟩=>by rw[N.new j y z hy b hm]at e;cases e),by rw[R.ne b w];exact N.base _ _ e⟩⟩) λj x h1 h2 b w=>by unfold hid;exact Ae ⟨j,x,h1,h2,w⟩
 have k2:KvF K (hid (C9 ρ o S) H1) kv kvs:=bE7 (R.hr na) k
 have P:=cC2 k
 have IC:=I1.comp n is
 have lists:∀b,C9 ρ o S b->∃u:HM,H1 b=some u.ho:=I1.lists
 generalize hS:C9 ρ o S=S' at IC q lists k2 na;refine⟨λi k ys J=>i<=kvs.length/\k=kvs.length-i/\Same H1 J/\ys.length<=i/\Reps K (hid S' J) ys ((kvs.take i).filterMap λy=>f (.tuple (y.1.map PyData.int))),⟨_,Ci _,rfl,L2.Same.rf _,Aa7 _,by simpa using Reps.nil⟩,?_⟩
 rintro i k ys J ⟨hil,rfl,m,hy,r⟩;refine⟨by lia,?_⟩
 by_cases c:i=kvs.length
 .subst c;refine .inl ⟨⟨m _ _ f1,P.symm⟩,λD U=>?_⟩
  rw[Cf]at r;have r2:=aL9 (ys:=ys) (λb z=>by obtain⟨xs,e⟩:=lists b z;exact⟨xs,m _ _ e⟩) U r
  have Y:D≠a:=λz=>by rw[z,m _ _ f1]at U;cases U
  have sg:Same H1 (upd J D (.lst ys)):=L2.Same.tr m (D1 U)
  rcases fz with⟨F,rfl⟩ | ⟨F,e2⟩
  .exact⟨_,.inl rfl,q D ys _ sg (O4 m U) B3 r2⟩
  .have X:upd J D (.lst ys) a=some (.frz od (dicO a kv)):=sg _ _ f1
   have hHD:H D=none:=by have:=O4 m U;rw[R.ne D Y]at this;exact this
   refine⟨_,.inr ⟨a,od,kv,F,X,rfl⟩,q D ys _ (λb x e=>?_) hHD (by rw[B0 Y];exact B3) (X2 ((aU8 X).hr (λz=>z.elim na λz=>Y z.symm)) (aU8 X).he _ r2)⟩
   by_cases w:b=a
   .subst w;rw[B3,<- F];exact e
   .rw[B0 w];exact sg _ _ (by rw[R.ne b w];exact e)
 .have s:i<kvs.length:=by lia
  have hd:kvs[i]? = some kvs[i]:=Aa2 s
  have take:(kvs.take (i+1)).filterMap (λy=>f (.tuple (y.1.map PyData.int)))=(kvs.take i).filterMap (λy=>f (.tuple (y.1.map PyData.int)))++(f (.tuple (kvs[i].1.map PyData.int))).toList:=by
   rw[Br s,List.filterMap_append];cases hf:f (.tuple (kvs[i].1.map PyData.int)) <;> simp[Ao,hf]
  obtain⟨ρ',hg,w⟩:=body kvs[i] (Cr s);refine .inr ⟨⟨m _ _ f1,by lia⟩,?_⟩
  rintro x M ⟨z,hz,rfl,rfl⟩;have I3:Env K S' H1 M (stC n is σ) (slC ρ n is) o:=IC.grow m;obtain⟨z',hz',F,e2⟩:=cO9 k2 hd;rw[hz]at hz';cases hz';have rx:Rep K (hid (C9 (slC ρ n is) o S') M) (.ref z.2.1) (.tuple (kvs[i].1.map PyData.int)):=I3.imm (by simp[imm,aT1]) (.tup (D3 (L2.Same.tr H9 m) (by rw[<- F];exact e2)) (M0 _))
  refine hg.2 S' H1 _ M o I3 _ rx _ λσ4 I4=>?_
  cases hf:f (.tuple (kvs[i].1.map PyData.int)) with
  | none=>
   rw[hf]at w take;refine w S' H1 σ4 M o I4 _ λH5 s5=>?_
   rw[Ac Ai];refine⟨_,by lia,s,rfl,L2.Same.tr m s5,by lia,?_⟩
   rw[take];simpa using r.mono (G0 s5)
  | some y=>
   rw[hf]at w take;refine w.1 S' H1 σ4 M o I4 _ λH5 s5=>?_
   rw[Ae rfl];refine w.2 S' H1 σ4 H5 o (I4.grow s5) _ λv H6 s6 rv=>?_
   have s36:=L2.Same.tr s5 s6
   refine⟨_,by lia,s,rfl,L2.Same.tr m s36,by simp;lia,?_⟩
   rw[take];exact(r.mono (G0 s36)).append (.cons (rv.mono (D8 (L2.Same.rf _) λb z _=>.inl z)) .nil)
end
end LV
namespace LH
open PySem PySem.SetTable
def stp (mask i:Nat):Nat:=(i*5+1) % (mask+1)
def itr (mask:Nat):Nat->Nat->Nat
 | 0,i=>i
 | n+1,i=>itr mask n (stp mask i)
def Full (mask:Nat):Prop:=∀i,i<=mask->∀j,j<=mask->∃n,n<=mask/\itr mask n i=j
theorem full7:Full 7:=by
 have:∀i,i<8->∀j,j<8->∃n,n<8/\itr 7 n i=j:=by decide +kernel
 intro i hi j w;obtain⟨n,h1,e⟩:=this i (by lia) j (by lia)
 exact⟨n,by lia,e⟩
theorem full31:Full 31:=by
 have:∀i,i<32->∀j,j<32->∃n,n<32/\itr 31 n i=j:=by decide +kernel
 intro i hi j w;obtain⟨n,h1,e⟩:=this i (by lia) j (by lia)
 exact⟨n,by lia,e⟩
def run (mask:Nat):Nat->Nat->Nat->Nat
 | 0,i,_=>i
 | n+1,i,p=>run mask n (leap mask i p).1 (leap mask i p).2
theorem bX5 (e i p:Nat):(leap e i p).1<=e:=Dx (Nat.mod_lt _ (by lia))
theorem dS4 (e:Nat):∀n i,run e n i 0=itr e n i
 | 0,_=>rfl
 | n+1,i=>by
  show run e n ((i*5+1+0 / 32) % (e+1)) (0 / 32)=itr e n ((i*5+1) % (e+1))
  rw[Nat.zero_div,Nat.add_zero];exact dS4 e n _
theorem cC4 (e:Nat):∀k i p,p<32^k->∃i',(i<=e->i'<=e)/\∀n,run e (k+n) i p=run e n i' 0
 | 0,i,p,h=>by
  obtain rfl:p=0:=by simp at h;lia
  exact⟨i,id,λn=>by rw[Nat.zero_add]⟩
 | k+1,i,p,h=>by
  obtain⟨i',h1,w⟩:=cC4 e k (leap e i p).1 (p / 32) (by
   rw[Nat.pow_succ]at h;exact Nat.div_lt_of_lt_mul (by lia))
  refine⟨i',λ_=>h1 (bX5 _ _ _),λn=>?_⟩
  rw[show k+1+n=(k+n)+1 by lia]
  exact w n
theorem bV8 {mask:Nat}(F:Full mask){i p j:Nat}(hi:i<=mask)(hp:p<2^64)(z:j<=mask):∃n,n<=mask+13/\run mask n i p=j:=by
 obtain⟨s,h1,e⟩:=cC4 mask 13 i p (Ab8 hp (by decide))
 obtain⟨n,m,w⟩:=F s (h1 hi) j z;exact⟨13+n,by lia,by rw[e,dS4,w]⟩
def adv (t:SetTable):Nat->Probe->Probe
 | 0,p=>p
 | n+1,p=>adv t n (t.advance p)
def beg (mask i p:Nat)(d:Option Nat):Probe:={j:=i,more:=runEnd mask i-i,i,perturb:=p,dummy:=d}
theorem cF7 (e i:Nat):runEnd e i-i<=9:=by unfold runEnd;split <;> lia
theorem bI7 (t:SetTable):∀(k j i p:Nat) (d:Option Nat),adv t (k+1) {j,more:=k,i,perturb:=p,dummy:=d}=beg t.mask (leap t.mask i p).1 (leap t.mask i p).2 d
 | 0,j,i,p,d=>rfl
 | k+1,j,i,p,d=>by
  show adv t (k+1) (t.advance _)=_
  have:t.advance {j,more:=k+1,i,perturb:=p,dummy:=d}={j:=j+1,more:=k,i,perturb:=p,dummy:=d}:=by
   unfold advance;rw[Ae (show k+1>0 by lia)];rfl
  rw[this];exact bI7 t k (j+1) i p d
theorem aI6 (t:SetTable):∀a b p,adv t (a+b) p=adv t b (adv t a p)
 | 0,b,p=>by rw[Nat.zero_add];rfl
 | a+1,b,p=>by rw[show a+1+b=(a+b)+1 by lia];exact aI6 t a b _
theorem bK6 (t:SetTable):∀n i p d,∃k,k<=10*n/\(adv t k (beg t.mask i p d)).j=run t.mask n i p
 | 0,i,p,d=>⟨0,by lia,rfl⟩
 | n+1,i,p,d=>by
  obtain⟨k,h1,e⟩:=bK6 t n (leap t.mask i p).1 (leap t.mask i p).2 d
  have:=cF7 t.mask i
  refine⟨(runEnd t.mask i-i+1)+k,by lia,?_⟩
  rw[aI6,show adv t (runEnd t.mask i-i+1) (beg t.mask i p d)=_ from bI7 t _ _ _ _ _]
  exact e
def Rch (t:SetTable)(p:Probe)(n:Nat):Prop:=p.dummy=none/\∃k,k<=n/\t.slot (adv t k p).j=.empty
theorem bD5 {t:SetTable}{j:Nat}(e:t.dummies = #[])(h:j∉t.place):t.slot j=.empty:=by
 unfold slot
 have:¬(t.place[below t.place j]? == some j)=true:=λz=>h (Array.mem_of_getElem? (beq_iff_eq.mp z))
 rw[Ac this,e,Ac];unfold has;simp
theorem aT6 {t:SetTable}{j:Nat}(e:t.dummies = #[]):t.slot j=.empty\/∃i,t.place[i]? = some j/\t.slot j=.live i:=by
 by_cases h:t.place[below t.place j]? = some j
 .exact .inr ⟨_,h,by unfold slot;rw[Ae (beq_iff_eq.mpr h)]⟩
 .refine .inl ?_;unfold slot;rw[Ac (λz=>h (beq_iff_eq.mp z)),e,Ac]
  unfold has;simp
theorem rch_start {t:SetTable}(F:Full t.mask)(s:t.dummies = #[]){j:Nat}(m:j<=t.mask)(h:j∉t.place)(x:Int):Rch t (t.probeStart x) (10*(t.mask+13)):=by
 have z:bits x<2^64:=by unfold bits;lia
 obtain⟨n,h1,e⟩:=bV8 F (i:=bits x % (t.mask+1)) (Dx (Nat.mod_lt _ (by lia))) z m
 obtain⟨k,Y,w⟩:=bK6 t n (bits x % (t.mask+1)) (bits x) none;refine⟨rfl,k,by lia,?_⟩
 have:t.probeStart x=beg t.mask (bits x % (t.mask+1)) (bits x) none:=rfl
 rw[this,w,e];exact bD5 s h
theorem cG1 (t:SetTable)(p:Probe):(t.advance p).dummy=p.dummy:=by
 unfold advance;split <;> rfl
inductive Mt (t:SetTable)(n:Nat):Met->Prop
 | emp {j}:Mt t n (.empty j none)
 | cand {j i next n'}:t.slot j=.live i->t.place[i]? = some j->n'<n->Rch t next n'->Mt t n (.candidate j i next)
theorem cM1 (z:t.dummies = #[])(f:Nat->Int)(h:Int):∀(fuel n:Nat) (p:Probe),Rch t p n->n<fuel->∃m,probe.go t f h fuel p=some m/\Mt t n m
 | 0,n,p,_,hf=>absurd hf (by lia)
 | fuel+1,n,p,⟨hn,k,hk,he⟩,hf=>by
  unfold probe.go;rcases aT6 (j:=p.j) z with e | ⟨i,s,w⟩
  .rw[e];exact⟨_,rfl,by rw[hn];exact .emp⟩
  .rw[w];have hr:∃n',n=n'+1/\Rch t (t.advance p) n':=by
    cases k with
    | zero=>rw[show adv t 0 p=p from rfl,w]at he;cases he
    | succ k=>exact⟨n-1,by lia,by rw[cG1];exact hn,k,by lia,he⟩
   obtain⟨n',rfl,hr⟩:=hr;dsimp only;split
   .exact⟨_,rfl,.cand w s (by lia) hr⟩
   .obtain⟨m,h1,Y⟩:=cM1 z f h fuel n' _ hr (by lia)
    refine⟨m,h1,?_⟩;cases Y with
    | emp=>exact .emp
    | cand a b c d=>exact .cand a b (by lia) d
theorem probe_met (e:t.dummies = #[])(f:Nat->Int)(h:Int)(hr:Rch t p n)(w:n<=10*(t.mask+13)):∃m,t.probe f h p=some m/\Mt t n m:=
 cM1 e f h _ n p hr (by unfold turns;lia)
theorem nodup_le:∀{l l':List α},l.Nodup->(∀x∈l,x∈l')->l.length<=l'.length:=λ{l l'} hn hs=>by
 classical
 induction l generalizing l' with
 | nil=>simp
 | cons a l ih=>
  have ha:=hs a Aj
  rw[Aa5]at hn
  have:=ih (l':=l'.erase a) hn.2 (λx w=>(List.mem_erase_of_ne (λ(e:x=a)=>hn.1 (e▸w))).mpr (hs x (Ad4 _ w)))
  rw[Dc ha]at this
  have:=Di ha
  simp;lia
theorem place_free {t:SetTable}(h:t.place.size<=t.mask):∃j,j<=t.mask/\j∉t.place:=by
 apply Classical.byContradiction
 intro w
 have:=nodup_le (l:=List.range (t.mask+1)) (l':=t.place.toList) Dl (λx e=>by
  have e:=Ab5.mp e
  exact Classical.byContradiction λz=>w ⟨x,by lia,λy=>z (Array.mem_toList_iff.mpr y)⟩)
 rw[Bs,Am]at this
 lia
theorem cR1 (f:α->Option β):∀L:List α,(∀x∈L,f x≠none)->(L.filterMap f).length=L.length
 | [],_=>rfl
 | x::L,h=>by
  cases e:f x with
  | none=>exact absurd e (h x Aj)
  | some y=>rw[Ao,e];simp[cR1 f L λz w=>h z (Ad4 _ w)]
theorem aN1:∀{L:List α},(∀x∈L,f x=g x)->L.filterMap f=L.filterMap g
 | [],_=>rfl
 | x::L,h=>by rw[Ao,Ao,h x Aj,aN1 λz hz=>h z (Ad4 _ hz)]
theorem cR9 (s:f j=none)(h1:f' j=some k)(w:∀x,x≠j->f' x=f x):∀{L:List Nat},L.Nodup->j∈L->(L.filterMap f').Perm (k::L.filterMap f)
 | [],_,h=>by cases h
 | x::L,nd,h=>by
  rw[Aa5]at nd;rw[Ao,Ao];by_cases e:x=j
  .subst e;rw[h1,s,aN1 (g:=f) λz Y=>w z λe=>nd.1 (e▸Y)]
  .rw[w x e];have m:=cR9 s h1 w nd.2 ((Aa1.mp h).resolve_left λz=>e z.symm)
   cases f x with
   | none=>exact m
   | some y=>exact(m.cons y).trans (List.Perm.swap _ _ _)
def own (mask:Nat)(o:Array (Option Nat)):List Nat:=(List.range (mask+1)).filterMap λj=>o.getD j none
theorem bB7 (w:Nat)(o:Array (Option Nat))(z:(o.getD j (some 0)).isNone=true):∀(n fuel i p:Nat),run w n i p=j->n<fuel->∃j',layClean.free w o fuel i p=some j'/\(o.getD j' (some 0)).isNone=true
 | n,0,i,p,_,h=>absurd h (by lia)
 | n,fuel+1,i,p,hr,h=>by
  unfold layClean.free;cases e:(List.range (runEnd w i+1-i)).find? λk=>(o.getD (i+k) (some 0)).isNone with
  | some k=>
   have:=List.find?_some e
   exact⟨i+k,rfl,this⟩
  | none=>
   cases n with
   | zero=>
    have hi:i=j:=hr
    have:=List.find?_eq_none.mp e 0 (Ab5.mpr (by unfold runEnd;split <;> lia))
    rw[Nat.add_zero,hi]at this;exact absurd z this
   | succ n=>exact bB7 w o z n fuel _ _ hr (by lia)
theorem getD_none {o:Array (Option Nat)}{j:Nat}(h:(o.getD j (some 0)).isNone=true):j<o.size/\o[j]? = some none:=by
 rw[Ak]at h;cases e:o[j]? with
 | none=>rw[e]at h;cases h
 | some x=>
  rw[e]at h;cases x with
  | none=>exact⟨(Bz.mp e).1,rfl⟩
  | some _=>cases h
theorem aS6 {mask:Nat}(F:Full mask):∀(hs:List Int) (o:Array (Option Nat)) (k:Nat),o.size=mask+1->(own mask o).Perm (List.range k)->k+hs.length<=mask ->
  ∃o',hs.foldl (λacc h=>do
   let (owner,k) <- acc
   let j <- layClean.free mask owner (turns mask) (bits h % (mask+1)) (bits h)
   pure (owner.setIfInBounds j (some k),k+1)) (some (o,k))=some (o',k+hs.length)/\o'.size=mask+1/\(own mask o').Perm (List.range (k+hs.length))
 | [],o,k,h1,h2,_=>⟨o,rfl,h1,h2⟩
 | h::hs,o,k,h1,h2,h3=>by
  rw[Ar]at h3;have s:∃j,j<=mask/\(o.getD j (some 0)).isNone=true:=by
   apply Classical.byContradiction
   intro P
   have:=cR1 (λj=>o.getD j none) (List.range (mask+1)) (λx z e=>P ⟨x,by have:=Ab5.mp z;lia,by
    have z:=Ab5.mp z
    rw[Ak,Af (by lia)]at e ⊢
    have e:o[x]=none:=e
    show(o[x]).isNone=true
    rw[e];rfl⟩)
   have Y:=h2.length_eq
   unfold own at Y;rw[this,Bs,Bs]at Y
   lia
  obtain⟨j,hj,hn⟩:=s;have B:bits h<2^64:=by unfold bits;lia
  obtain⟨n,h4,M⟩:=bV8 F (i:=bits h % (mask+1)) (Dx (Nat.mod_lt _ (by lia))) B hj
  obtain⟨w,N,R⟩:=bB7 mask o hn n (turns mask) _ _ M (by unfold turns;lia)
  obtain⟨Q,D⟩:=getD_none R;have m:(o.setIfInBounds w (some k)).size=mask+1:=by rw[Array.size_setIfInBounds];exact h1
  have hp:(own mask (o.setIfInBounds w (some k))).Perm (List.range (k+1)):=by
   refine(cR9 (f:=λj=>o.getD j none) (j:=w) (k:=k) ?_ ?_ ?_ Dl (Ab5.mpr (by lia))).trans ?_
   .show o.getD w none=none
    rw[Ak,D];rfl
   .show(o.setIfInBounds w (some k)).getD w none=some k
    rw[Ak,Array.getElem?_setIfInBounds_self_of_lt Q];rfl
   .intro x z;show(o.setIfInBounds w (some k)).getD x none=o.getD x none;rw[Ak,Ak,Array.getElem?_setIfInBounds_ne (λe=>z e.symm)]
   .refine(h2.cons k).trans ?_;rw[Cn];exact(List.perm_append_singleton _ _).symm
  obtain⟨o',X,U,J⟩:=aS6 F hs _ (k+1) m hp (by lia)
  refine⟨o',?_,U,by rw[Ar,show k+(hs.length+1)=k+1+hs.length by lia];exact J⟩
  rw[List.foldl_cons,Ar,show k+(hs.length+1)=k+1+hs.length by lia,<- X]
  congr 1
  show(layClean.free mask o (turns mask) (bits h % (mask+1)) (bits h)).bind _=_
  rw[N];rfl
theorem laid_some {mask:Nat}(F:Full mask)(s:Array Int)(Q:s.size<=mask)(e w:Nat)(X z:Bool):∃t order,laid mask e w X z s=some (t,order)/\t.mask=mask/\t.dummies = #[]/\t.place.size=s.size/\order.toList.Perm (List.range s.size):=by
 obtain⟨m,U,R,Y⟩:=aS6 F s.toList (Array.replicate (mask+1) none) 0 (by simp) (by
  have:own mask (Array.replicate (mask+1) none)=[]:=by
   unfold own;rw[List.filterMap_eq_nil_iff];intro x N;rw[Ak,Array.getElem?_replicate,Ae (Ab5.mp N)];rfl
  rw[this];exact List.Perm.refl _) (by rw[Am];lia)
 rw[Nat.zero_add,Am]at U Y;have M:layClean mask s=some m:=by
  unfold layClean;rw[<- Array.foldl_toList,U];rfl
 have J:(((List.range (mask+1)).filterMap λj=>(m.getD j none).map (j,·)).map (·.2))=own mask m:=by
  rw[List.map_filterMap];refine aN1 λx _=>?_
  cases m.getD x none <;> rfl
 refine⟨_,_,by unfold laid;rw[M];rfl,rfl,rfl,?_,?_⟩
 .show((List.map _ _).toArray).size=_
  rw[Ab2,Aa3,<- Aa3 (f:=(·.2)),J,Y.length_eq,Bs]
 .show((List.map _ _).toArray).toList.Perm _
  rw[List.toList_toArray,J];exact Y
def Inc (xs:Array Nat):Prop:=∀i j (hj:j<xs.size) (h:i<j),xs[i]'(Nat.lt_trans h hj)<xs[j]
theorem aX5 (h:Inc xs)(j:Nat):∀(fuel lo hi:Nat),hi<=xs.size->hi-lo<=fuel->lo<=hi->(∀i (hi:i<xs.size),i<lo->xs[i]<j)->(∀i (hi':i<xs.size),hi<=i->j<=xs[i]) ->
  below.go xs j fuel lo hi<=xs.size/\(∀i (hi':i<xs.size),i<below.go xs j fuel lo hi->xs[i]<j)/\(∀i (hi':i<xs.size),below.go xs j fuel lo hi<=i->j<=xs[i])
 | 0,lo,hi,h1,h2,h3,h4,h5=>by
  have e:lo=hi:=by lia
  subst e;unfold below.go;exact⟨h1,h4,h5⟩
 | fuel+1,lo,hi,h1,h2,h3,h4,h5=>by
  unfold below.go;by_cases s:lo<hi
  .rw[Ae s];dsimp only;have m:(lo+hi) / 2<xs.size:=by lia
   have Y:xs.getD ((lo+hi) / 2) j=xs[(lo+hi) / 2]:=by rw[Ak,Af m];rfl
   rw[Y];split
   .rename_i w;refine aX5 h j fuel ((lo+hi) / 2+1) hi h1 (by lia) (by lia) (λi hi' U=>?_) h5
    rcases Cz i ((lo+hi) / 2) with z | z
    .exact Nat.lt_trans (h i _ m z) w
    .have:i=(lo+hi) / 2:=by lia
     subst this;exact w
   .rename_i w;refine aX5 h j fuel lo ((lo+hi) / 2) (by lia) (by lia) (by lia) h4 (λi hi' X=>?_)
    rcases Cz ((lo+hi) / 2) i with z | z
    .have:=h _ i hi' z;lia
    .have:i=(lo+hi) / 2:=by lia
     subst this;lia
  .rw[Ac s];have e:lo=hi:=by lia
   subst e;exact⟨h1,h4,h5⟩
theorem V9 (h:Inc xs)(j:Nat):below xs j<=xs.size/\(∀i (hi:i<xs.size),i<below xs j->xs[i]<j)/\(∀i (hi:i<xs.size),below xs j<=i->j<=xs[i]):=
 aX5 h j xs.size 0 xs.size (Aa7 _) (by lia) (by lia) (λi _ z=>absurd z (by lia)) (λi hi z=>absurd hi (by lia))
theorem below_next (h:Inc xs)(hi:i<xs.size):below xs (xs[i]+1)=i+1:=by
 obtain⟨h1,w,s⟩:=V9 h (xs[i]+1);rcases Nat.lt_trichotomy (below xs (xs[i]+1)) (i+1) with z | z | z
 .have:=s i hi (by lia);lia
 .exact z
 .have e:i+1<xs.size:=by lia
  have:=w (i+1) e z
  have:=h i (i+1) e (by lia)
  lia
theorem below_zero (xs:Array Nat)(h:Inc xs):below xs 0=0:=by
 obtain⟨h1,e,w⟩:=V9 h 0;rcases Nat.eq_zero_or_pos (below xs 0) with z | z
 .exact z
 .exact absurd (e 0 (by lia) z) (by lia)
theorem slot_free {t:SetTable}{j:Nat}(hi:Inc t.place)(h:t.slot j=.empty):j∉t.place:=by
 intro X;obtain⟨i,w,e⟩:=Array.mem_iff_getElem.mp X;obtain⟨h1,s,m⟩:=V9 hi j;have Y:below t.place j=i:=by
  rcases Nat.lt_trichotomy (below t.place j) i with z | z | z
  .have:=hi _ i w z
   have:=m _ (by lia) (Aa7 (below t.place j))
   lia
  .exact z
  .have:=s i w z;lia
 unfold slot at h;dsimp only at h;rw[Y,Af w,e,Ae (by simp)]at h
 cases h
theorem inc_iff:Inc xs↔xs.toList.Pairwise (· < ·):=by
 rw[List.pairwise_iff_getElem];constructor
 .intro h i j hi w e;exact h i j (by simpa using w) e
 .intro h i j w e;exact h i j (by simp;lia) (by simpa using w) e
theorem put_inc {t:SetTable}{j:Nat}(hi:Inc t.place)(h:j∉t.place):Inc (t.put j).1.place:=by
 show Inc (insertAt t.place (below t.place j) j)
 obtain⟨h1,U,J⟩:=V9 hi j;rw[inc_iff,SetTable.toList_insertAt];have hp:=inc_iff.mp hi;have e:t.place.toList=t.place.toList.take (below t.place j)++t.place.toList.drop (below t.place j):=(Ad3 _ _).symm;rw[e]at hp;obtain⟨M,N,R⟩:=Ec.mp hp;have X:∀x∈t.place.toList.take (below t.place j),x<j:=λx Y=>by
  obtain⟨i,m,rfl⟩:=List.mem_take_iff_getElem.mp Y;have w:i<t.place.size:=by simp at m;lia
  have:=U i w (by lia)
  simpa using this
 have s:∀x∈t.place.toList.drop (below t.place j),j<x:=λx Y=>by
  obtain⟨i,m,rfl⟩:=List.mem_drop_iff_getElem.mp Y;have w:below t.place j+i<t.place.size:=by simp at m;lia
  have Q:=J _ w (by lia)
  have D:t.place[below t.place j+i]≠j:=λz=>h (z▸Array.getElem_mem w)
  simp only[Array.getElem_toList]
  lia
 refine Ec.mpr ⟨M,List.pairwise_cons.mpr ⟨s,N⟩,λx Y y hy=>?_⟩
 rcases Aa1.mp hy with rfl | hy
 .exact X x Y
 .exact R x Y y hy
theorem laid_inc {mask finger moves:Nat}{led plain:Bool}{hs:Array Int}{t:SetTable}{order:Array Nat}(h:laid mask finger moves led plain hs=some (t,order)):Inc t.place:=by
 unfold laid at h;cases e:layClean mask hs with
 | none=>rw[e]at h;cases h
 | some o=>
  rw[e]at h;have h:=Ab4 h;rw[<- (Prod.mk.inj h).1];show Inc (List.map _ _).toArray;rw[inc_iff,List.toList_toArray,Ae0,List.pairwise_filterMap];refine List.pairwise_lt_range.imp λ{a b} m x z y s=>?_
  have h1:x.1=a:=by
   cases w:o.getD a none with
   | none=>rw[w]at z;cases z
   | some u=>rw[w]at z;cases z;rfl
  have Y:y.1=b:=by
   cases w:o.getD b none with
   | none=>rw[w]at s;cases s
   | some u=>rw[w]at s;cases s;rfl
  rw[h1,Y];exact m
theorem bP7 (t:SetTable)(k:Nat)(p:Probe):adv t (k+1) p=t.advance (adv t k p):=by rw[aI6 t k 1 p];rfl
theorem bP0 (h:t.mask=t'.mask):∀k p,adv t k p=adv t' k p
 | 0,p=>rfl
 | k+1,p=>by
  show adv t k (t.advance p)=adv t' k (t'.advance p)
  have:t.advance p=t'.advance p:=by unfold advance;rw[h]
  rw[this];exact bP0 h k _
def stj (t:SetTable)(h:Int)(k:Nat):Nat:=(adv t k (t.probeStart h)).j
theorem bL9 (e:t.mask=t'.mask)(h:Int)(k:Nat):stj t h k=stj t' h k:=by
 unfold stj
 have:t.probeStart h=t'.probeStart h:=by unfold probeStart;rw[e]
 rw[this,bP0 e]
def Pth (t:SetTable)(h:Int)(j:Nat):Prop:=∃k,stj t h k=j/\∀k',k'<k->stj t h k'∈t.place
theorem slot_live {t:SetTable}(hi:Inc t.place){i j:Nat}(h:t.place[i]? = some j):t.slot j=.live i:=by
 obtain⟨w,e⟩:=Bz.mp h;obtain⟨J,s,m⟩:=V9 hi j;have Y:below t.place j=i:=by
  rcases Nat.lt_trichotomy (below t.place j) i with z | z | z
  .have X:=m (below t.place j) (by lia) (Aa7 _)
   have U:=hi (below t.place j) i w z
   lia
  .exact z
  .have:=s i w z;lia
 unfold slot;rw[Y];show(if(t.place[i]? == some j)=true then _ else _)=_;rw[h,Ae (by simp)]
def dW3 (t:SetTable)(f:Nat->Int)(h:Int)(k:Nat):Met->Prop
 | .empty j _=>∃k2,k<=k2/\stj t h k2=j/\(∀k',k'<k2->stj t h k'∈t.place)/\t.slot j=.empty/\∀k',k<=k'->k'<k2->∃i,t.slot (stj t h k')=.live i/\(f i==h)=false
 | .candidate j i next=>∃k2,k<=k2/\stj t h k2=j/\(∀k',k'<k2+1->stj t h k'∈t.place)/\next=adv t (k2+1) (t.probeStart h)/\t.slot j=.live i/\∀k',k<=k'->k'<k2->∃i,t.slot (stj t h k')=.live i/\(f i==h)=false
theorem go_ok (B:t.dummies = #[])(f:Nat->Int)(h:Int):∀(fuel k:Nat) (m:Met),(∀k',k'<k->stj t h k'∈t.place)->probe.go t f h fuel (adv t k (t.probeStart h))=some m->dW3 t f h k m
 | 0,k,m,_,e=>by cases e
 | fuel+1,k,m,hk,e=>by
  unfold probe.go at e;rcases aT6 (j:=stj t h k) B with s | ⟨i,s1,D⟩
  .have s:t.slot (adv t k (t.probeStart h)).j=.empty:=s
   rw[s]at e;cases e;exact⟨k,Aa7 _,rfl,hk,s,λk' h1 N=>by lia⟩
  .have F:t.slot (adv t k (t.probeStart h)).j=.live i:=D
   rw[F]at e;dsimp only at e;have R:stj t h k∈t.place:=Array.mem_of_getElem? s1;have Y:∀k',k'<k+1->stj t h k'∈t.place:=λk' h'=>by
    rcases Cz k' k with z | z
    .exact hk k' z
    .rw[show k'=k by lia];exact R
   split at e
   .cases e
    exact⟨k,Aa7 _,rfl,Y,(bP7 t k _).symm,D,λk' h1 N=>by lia⟩
   .rename_i Q;rw[<- bP7]at e;have P:=go_ok B f h fuel (k+1) m Y e;have hf:(f i==h)=false:=by simpa using Q
    have skip:∀w,(∀k',k+1<=k'->k'<w->∃i,t.slot (stj t h k')=.live i/\(f i==h)=false)->∀k',k<=k'->k'<w->∃i,t.slot (stj t h k')=.live i/\(f i==h)=false:=λw hh k' h1 N=>by
     rcases Nat.eq_or_lt_of_le h1 with z | z
     .rw[<- z];exact⟨i,D,hf⟩
     .exact hh k' z N
    cases m with
    | empty j d=>
     obtain⟨w,a1,X,U,J,M⟩:=P;exact⟨w,by lia,X,U,J,skip w M⟩
    | candidate j i' n=>
     obtain⟨w,a1,X,U,J,M,a6⟩:=P;exact⟨w,by lia,X,U,J,M,skip w a6⟩
def Fnd (t:SetTable)(hs:List Int):Prop:=∀x∈hs.zip t.place.toList,Pth t x.1 x.2
theorem insertAt_list (xs:Array α)(p:Nat)(x:α):(insertAt xs p x).toList=xs.toList.take p++x::xs.toList.drop p:=by
 unfold insertAt;rw[Array.toList_append,Array.toList_push,Array.toList_extract,Array.toList_extract];have e:(xs.toList.drop p).take (xs.toList.length-p)=xs.toList.drop p:=Dq (by simp)
 simp[List.extract_eq_drop_take,<- Array.length_toList,e]
theorem bR6 {α β:Type}{a:List α}{b:List β}(h:a.length=b.length)(p:Nat)(x:α)(y:β):((a.take p++x::a.drop p).zip (b.take p++y::b.drop p)).Perm ((x,y)::a.zip b):=by
 rw[List.zip_append (by rw[Ad1,Ad1,h]),Ed]
 refine List.perm_middle.trans (List.Perm.cons _ ?_);rw[<- List.zip_append (by rw[Ad1,Ad1,h]),Ad3,Ad3]
theorem put_fnd (F:Fnd t hs)(X:hs.length=t.place.size)(hp:Pth t h j):Fnd (t.put j).1 (hs.take (t.put j).2++h::hs.drop (t.put j).2):=by
 have s:t.mask=(t.put j).1.mask:=rfl
 have z:(t.put j).1.place.toList=t.place.toList.take (t.put j).2++j::t.place.toList.drop (t.put j).2:=insertAt_list _ _ _
 have mono:∀x,x∈t.place->x∈(t.put j).1.place:=λx hx=>by
  rw[<- Array.mem_toList_iff]at hx ⊢;rw[z];rw[<- Ad3 (t.put j).2 t.place.toList]at hx;rcases Aa0.mp hx with hx | hx
  .exact Al _ hx
  .exact Ac1 _ (Ad4 _ hx)
 have e:∀{h w},Pth t h w->Pth (t.put j).1 h w:=λ{h w} ⟨k,h1,m⟩=>⟨k,by rw[<- bL9 s];exact h1,λU Y=>by rw[<- bL9 s];exact mono _ (m U Y)⟩
 intro x hx;rw[z]at hx;rcases Aa1.mp ((bR6 (by rw[X,Am]) _ _ _).mem_iff.mp hx) with rfl | hx
 .exact e hp
 .exact e (F x hx)
theorem bT8 (t:SetTable):∀(k j more i p:Nat) (d:Option Nat),k<=more->(adv t k {j,more,i,perturb:=p,dummy:=d}).j=j+k
 | 0,_,_,_,_,_,_=>rfl
 | k+1,j,more,i,p,d,h=>by
  show(adv t k (t.advance _)).j=_
  have:t.advance {j,more,i,perturb:=p,dummy:=d}={j:=j+1,more:=more-1,i,perturb:=p,dummy:=d}:=by
   unfold advance;rw[Ae (show more>0 by lia)]
  rw[this,bT8 t k (j+1) (more-1) i p d (by lia)];lia
theorem bD0 (o:Array (Option Nat)):∀(fuel i p j:Nat),layClean.free t.mask o fuel i p=some j->∃n,(adv t n (beg t.mask i p none)).j=j/\∀n',n'<n->(o.getD (adv t n' (beg t.mask i p none)).j (some 0)).isNone=false
 | 0,i,p,j,e=>by cases e
 | fuel+1,i,p,j,e=>by
  unfold layClean.free at e;have J:i<=runEnd t.mask i:=by unfold runEnd;split <;> lia
  cases s:(List.range (runEnd t.mask i+1-i)).find? λk=>(o.getD (i+k) (some 0)).isNone with
  | some k=>
   rw[s]at e;dsimp only at e;cases e;obtain⟨h1,Y,U⟩:=List.find?_range_eq_some.mp s;have M:=Ab5.mp Y;have m:∀n',n'<=k->(adv t n' (beg t.mask i p none)).j=i+n':=λn' X=>bT8 t n' i _ i p none (by lia)
   refine⟨k,m k (Aa7 _),λn' X=>?_⟩
   rw[m n' (by lia)]
   have:=U n' X
   simp only[Bool.not_eq_true']at this;exact this
  | none=>
   rw[s]at e;dsimp only at e;obtain⟨n,h1,Y⟩:=bD0 o fuel _ _ j e;have w:adv t (runEnd t.mask i-i+1) (beg t.mask i p none)=beg t.mask (leap t.mask i p).1 (leap t.mask i p).2 none:=bI7 t _ _ _ _ _;refine⟨(runEnd t.mask i-i+1)+n,by rw[aI6,w];exact h1,λn' X=>?_⟩
   rcases Cz n' (runEnd t.mask i-i+1) with z | z
   .have m:(adv t n' (beg t.mask i p none)).j=i+n':=bT8 t n' i _ i p none (by lia)
    rw[m]
    have:=List.find?_eq_none.mp s n' (Ab5.mpr (by lia))
    exact Bool.eq_false_iff.mpr this
   .have:=Y (n'-(runEnd t.mask i-i+1)) (by lia)
    rw[<- w,<- aI6,show runEnd t.mask i-i+1+(n'-(runEnd t.mask i-i+1))=n' by lia]at this
    exact this
def cX2 (t:SetTable)(o:Array (Option Nat))(h:Int)(j:Nat):Prop:=∃n,stj t h n=j/\∀n',n'<n->(o.getD (stj t h n') (some 0)).isNone=false
theorem aU4:∀(hs pre:List Int) (o o':Array (Option Nat)) (k:Nat),pre.length=k->o.size=t.mask+1->(∀j x,o[j]? = some (some x)->∃h,pre[x]? = some h/\cX2 t o h j) ->
  hs.foldl (λacc h=>do
   let (owner,k) <- acc
   let j <- layClean.free t.mask owner (turns t.mask) (bits h % (t.mask+1)) (bits h)
   pure (owner.setIfInBounds j (some k),k+1)) (some (o,k))=some (o',k+hs.length)->∀j x,o'[j]? = some (some x)->∃h,(pre++hs)[x]? = some h/\cX2 t o' h j
 | [],pre,o,o',k,hk,hz,hp,e=>by
  cases e
  rw[Cd];exact hp
 | h::hs,pre,o,o',k,hk,hz,hp,e=>by
  rw[List.foldl_cons,Ar,show k+(hs.length+1)=k+1+hs.length by lia]at e
  cases hfr:layClean.free t.mask o (turns t.mask) (bits h % (t.mask+1)) (bits h) with
  | none=>
   have:(do
    let (owner,k) <- some (o,k)
    let j <- layClean.free t.mask owner (turns t.mask) (bits h % (t.mask+1)) (bits h)
    pure (owner.setIfInBounds j (some k),k+1):Option (Array (Option Nat)×Nat))=none:=by
    show(layClean.free t.mask o (turns t.mask) (bits h % (t.mask+1)) (bits h)).bind _=none
    rw[hfr];rfl
   rw[this]at e;have hn:∀(l:List Int),l.foldl (λacc h=>do
    let (owner,k) <- acc
    let j <- layClean.free t.mask owner (turns t.mask) (bits h % (t.mask+1)) (bits h)
    pure (owner.setIfInBounds j (some k),k+1)) (none:Option (Array (Option Nat)×Nat))=none:=λl=>by
    induction l with
    | nil=>rfl
    | cons a l ih=>rw[List.foldl_cons];exact ih
   rw[hn]at e;cases e
  | some j0=>
   have:(do
    let (owner,k) <- some (o,k)
    let j <- layClean.free t.mask owner (turns t.mask) (bits h % (t.mask+1)) (bits h)
    pure (owner.setIfInBounds j (some k),k+1):Option (Array (Option Nat)×Nat))=some (o.setIfInBounds j0 (some k),k+1):=by
    show(layClean.free t.mask o (turns t.mask) (bits h % (t.mask+1)) (bits h)).bind _=_
    rw[hfr];rfl
   rw[this]at e;have mono:∀x,(o.getD x (some 0)).isNone=false->((o.setIfInBounds j0 (some k)).getD x (some 0)).isNone=false:=λx hx=>by
    rw[Ak]at hx ⊢;by_cases hx0:j0=x
    .subst hx0;by_cases hlt:j0<o.size
     .rw[Array.getElem?_setIfInBounds_self_of_lt hlt];rfl
     .rw[Cb (by rw[Array.size_setIfInBounds];lia)];rfl
    .rw[Array.getElem?_setIfInBounds_ne hx0];exact hx
   have lift:∀{h j},cX2 t o h j->cX2 t (o.setIfInBounds j0 (some k)) h j:=λ{h j} ⟨n,a,b⟩=>⟨n,a,λn' hn=>mono _ (b n' hn)⟩
   have ih:=aU4 hs (pre++[h]) (o.setIfInBounds j0 (some k)) o' (k+1) (by simp[hk]) (by rw[Array.size_setIfInBounds];exact hz) (λj x hx=>by
    by_cases hj:j0=j
    .subst hj;have hlt:j0<o.size:=by
      have:=(Bz.mp hx).1
      rw[Array.size_setIfInBounds]at this;exact this
     rw[Array.getElem?_setIfInBounds_self_of_lt hlt]at hx;have hx:some k=some x:=Ab4 hx;have hx:k=x:=Ab4 hx;subst hx;refine⟨h,by rw[Bp (by lia),hk];simp,lift ?_⟩
     obtain⟨n,a,b⟩:=bD0 (t:=t) o _ _ _ _ hfr;exact⟨n,a,b⟩
    .rw[Array.getElem?_setIfInBounds_ne hj]at hx;obtain⟨w,a,b⟩:=hp j x hx;refine⟨w,?_,lift b⟩;rw[Bl (Ab0.mp a).1];exact a) e
   rw[Ad7]at ih;exact ih
end LH
namespace L2
open PySem PySem.Spec PyProof.Rows
structure TabOk (t:SetTable)(n:Nat):Prop where
 dm:t.dummies = #[]
 sz:t.place.size=n
 mq:(t.mask=7/\n<=4)\/(t.mask=31/\n<=17)
theorem TabOk.full (h:TabOk t n):LH.Full t.mask:=by
 rcases h.mq with h | h <;> rw[h.1]
 .exact LH.full7
 .exact LH.full31
theorem TabOk.fits (h:TabOk t n):t.fits n=true:=by
 unfold SetTable.fits SetTable.fill;rw[h.dm,h.sz]
 have:=h.mq
 simp;lia
theorem TabOk.rch {t:SetTable}{n:Nat}(h:TabOk t n)(x:Int):LH.Rch t (t.probeStart x) (10*(t.mask+13)):=by
 obtain⟨j,h1,e⟩:=LH.place_free (t:=t) (by rw[h.sz];have:=h.mq;lia)
 exact LH.rch_start h.full h.dm h1 e x
theorem TabOk.put (h:TabOk t n)(j:Nat):(t.put j).1.dummies = #[]/\(t.put j).1.place.size=n+1/\(t.put j).1.mask=t.mask:=by
 unfold SetTable.put;refine⟨?_,?_,rfl⟩
 .show(if SetTable.has t.dummies j then _ else t.dummies) = #[]
  rw[h.dm];rfl
 .show(SetTable.insertAt t.place _ j).size=_
  rw[<- Array.length_toList,(SetTable.insertAt_perm _ _ _).length_eq];simp[h.sz]
section
variable {prog:Program}{w:World}{A:Around}{E:Ef}{s:Shared}
theorem bC1 (h:ItemsAre (intKind prog w) ks vs):∀v∈vs,∃k t,v=.int k t:=by
 induction h with
 | nil=>intro v e;cases e
 | @cons k v ks vs h1 _ ih=>
  intro u hu;rcases Aa1.mp hu with rfl | hu
  .have h1:Value.isInt k u=true:=h1
   cases u <;> first | exact⟨_,_,rfl⟩ | (simp[Value.isInt]at h1)
  .exact ih u hu
theorem aU5 (U:IsTupleKey (intKind prog w) s.heap ks a)(h:Q false s):wpAny (model prog w) A (ofAClassStatement 8 (.ref a)) Q E s:=by
 have J:=U.typeIs
 obtain⟨o,Y,n,ho,_,M,hi⟩:=U;unfold ofAClassStatement;refine Aa (wpAny_typeOf J ?_);dsimp only;refine Aa ?_;refine Ab ?_;simp only[Bool.not_true,Av,if_false];refine Aa (wpAny_seqItems ho M ?_);dsimp only;refine Aa ?_;rw[<- Array.forIn_toList];refine wpAny_forIn_list _ (λz r X=>r.1=none/\X=s/\∀v∈z,∃k t,v=.int k t) _ ?_ ?_ _ _ ⟨rfl,rfl,bC1 hi⟩
 .rintro v z r X ⟨hr,rfl,e⟩;obtain⟨k,t,rfl⟩:=e v Aj;refine Aa (wpAny_of_eq (a:=false) (by unfold ofAClassStatement;rfl) ?_)
  simp only[Av,if_false];exact Ab ⟨rfl,rfl,λu m=>e u (Ad4 _ m)⟩
 .rintro⟨N,R⟩ X ⟨hr,rfl,_⟩;simp only at hr;subst hr;exact Ab h
theorem cE0 (U:IsTupleKey (intKind prog w) s.heap ks a)(h:Q true s):wpAny (model prog w) A (hashByValue 8 (.ref a)) Q E s:=by
 have J:=U.typeIs
 obtain⟨o,m,n,ho,_,M,hi⟩:=U;unfold hashByValue;refine Aa (wpAny_specialOf J F.slot_tuple_hash.lookup ?_);show wpAny _ _ (seqItems? (.ref a) >>= _) _ _ s;refine Aa (wpAny_seqItems ho M ?_);refine Aa ?_;show wpAny _ _ (forIn m _ _) _ _ s;rw[<- Array.forIn_toList];refine wpAny_forIn_list _ (λz r X=>r.1=none/\X=s/\∀v∈z,∃k t,v=.int k t) _ ?_ ?_ _ _ ⟨rfl,rfl,bC1 hi⟩
 .rintro v z r X ⟨hr,rfl,e⟩;obtain⟨k,t,rfl⟩:=e v Aj;refine Aa (wpAny_of_eq (a:=true) (by unfold hashByValue;rfl) ?_)
  simp only[Bool.not_true,Av,if_false];exact Ab ⟨rfl,rfl,λu Y=>e u (Ad4 _ Y)⟩
 .rintro⟨N,R⟩ X ⟨hr,rfl,_⟩;simp only at hr;subst hr;exact Ab h
theorem bW9 {h:Heap}{S:Addr}{o:Obj}{es:Array (Int×Value)}{ep:Nat}{t:SetTable}(ho:h.get? S=some o)(z:o.data=.set es ep t)(e:Array (Int×Value))(t':SetTable):(h.update S (Obj.putSet e t')).get? S=some {o with data:=.set e (ep+1) t'}:=by
 have:=Bq (Obj.putSet e t') ho (by rw[putSet_of e t' z];rfl)
 rw[putSet_of e t' z]at this;exact this
end
end L2
namespace LH
open PySem PySem.SetTable
end LH
namespace L2
open PySem PySem.Spec PyProof.Rows
end L2
namespace LH
open PySem PySem.SetTable
theorem cJ2 (t:SetTable)(i p:Nat)(d:Option Nat)(h:i<=t.mask):(beg t.mask i p d).j+(beg t.mask i p d).more<=t.mask:=by
 show i+(runEnd t.mask i-i)<=t.mask
 unfold runEnd;split <;> lia
theorem cA9:∀k p,p.j+p.more<=t.mask->(adv t k p).j+(adv t k p).more<=t.mask
 | 0,p,h=>h
 | k+1,p,h=>cA9 k (t.advance p) (by
  unfold advance;split
  .show p.j+1+(p.more-1)<=_;lia
  .exact cJ2 t _ 0 none (bX5 _ _ _))
theorem dG1 (t:SetTable)(h:Int)(k:Nat):stj t h k<=t.mask:=by
 have:=cA9 (t:=t) k (t.probeStart h) (cJ2 t _ (bits h) none (Dx (Nat.mod_lt _ (by lia))))
 unfold stj;lia
theorem bO2 {es:Array (Int×Value)}{P:Int->Nat->Prop}:∀{L:List (Nat×Nat)},(∀p∈L,∃e,es[p.2]? = some e/\P e.1 p.1)->∀z∈((((L.map (·.2)).filterMap (es[·]?)).map (·.1)).zip (L.map (·.1))),P z.1 z.2
 | [],_,z,hz=>by cases hz
 | p::L,h,z,hz=>by
  obtain⟨e,h1,w⟩:=h p Aj;simp only[Ac7,Ao,h1,Ed,Aa1]at hz;rcases hz with rfl | hz
  .exact w
  .exact bO2 (λq s=>h q (Ad4 _ s)) z hz
theorem laid_fnd {mask finger moves:Nat}{led plain:Bool}{es:Array (Int×Value)}{t:SetTable}{order:Array Nat}(F:Full mask)(hn:es.size<=mask)(h:laid mask finger moves led plain (es.map (·.1))=some (t,order)):Fnd t ((order.filterMap (es[·]?)).toList.map (·.1)):=by
 obtain⟨s,B,g2,g3⟩:=aS6 F (es.map (·.1)).toList (Array.replicate (mask+1) none) 0 (by simp) (by
  have:own mask (Array.replicate (mask+1) none)=[]:=by
   unfold own;rw[List.filterMap_eq_nil_iff];intro x m;rw[Ak,Array.getElem?_replicate,Ae (Ab5.mp m)];rfl
  rw[this];exact List.Perm.refl _) (by rw[Am,Array.size_map];lia)
 have U:=B
 rw[Nat.zero_add]at U;have hl:layClean mask (es.map (·.1))=some s:=by
  unfold layClean;rw[<- Array.foldl_toList,U];rfl
 unfold laid at h;rw[hl]at h;obtain⟨M,Q⟩:=Prod.mk.inj (Ab4 h);have em:t.mask=mask:=by rw[<- M]
 have D:t.place.toList=((List.range (mask+1)).filterMap λj=>(s.getD j none).map (j,·)).map (·.1):=by rw[<- M]
 have w:order.toList=((List.range (mask+1)).filterMap λj=>(s.getD j none).map (j,·)).map (·.2):=by rw[<- Q]
 clear M Q h
 subst em;have cp:=aU4 (t:=t) _ [] _ s 0 rfl (by simp) (λj x m=>by
  rw[Array.getElem?_replicate]at m;split at m <;> simp at m) B
 have Y:∀j x,s[j]? = some (some x)->(j,x)∈(List.range (t.mask+1)).filterMap λj=>(s.getD j none).map (j,·):=λj x m=>by
  refine List.mem_filterMap.mpr ⟨j,Ab5.mpr (by have:=(Bz.mp m).1;lia),?_⟩
  rw[Ak,m];rfl
 intro z hz;rw[Array.toList_filterMap,w,D]at hz;refine bO2 (P:=λh j=>Pth t h j) (λp hp=>?_) z hz
 obtain⟨j,hj,e⟩:=List.mem_filterMap.mp hp;cases w:s.getD j none with
 | none=>rw[w]at e;cases e
 | some x=>
  rw[w]at e;have e:some (j,x)=some p:=e;obtain rfl:=Ab4 e;have ho:s[j]? = some (some x):=by
   rw[Ak]at w;cases X:s[j]? with
   | none=>rw[X]at w;cases w
   | some y=>rw[X]at w;have w:y=some x:=w;rw[w]
  obtain⟨hh,h1,n,h2,h3⟩:=cp j x ho;rw[List.nil_append,Cj,Array.getElem?_map]at h1;obtain⟨e,he,rfl⟩:=Ap.mp h1;refine⟨e,he,n,h2,λJ hk=>?_⟩
  have N:=h3 J hk
  have R:stj t e.1 J<s.size:=by have:=dG1 t e.1 J;lia
  rw[Ak]at N;cases X:s[stj t e.1 J]? with
  | none=>have:=Af R;rw[X]at this;cases this
  | some y=>
   rw[X]at N;cases y with
   | none=>cases N
   | some y=>
    rw[<- Array.mem_toList_iff,D];exact Aa8.mpr ⟨_,Y _ y X,rfl⟩
theorem fnd_at {t:SetTable}{es:Array (Int×Value)}(F:Fnd t (es.toList.map (·.1)))(z:t.place.size=es.size){i:Nat}{e:Int×Value}(h:es[i]? = some e):∃j,t.place[i]? = some j/\Pth t e.1 j:=by
 have hi:i<es.size:=(Bz.mp h).1
 have w:i<t.place.size:=by lia
 refine⟨_,Af w,F (e.1,t.place[i]) ?_⟩;refine List.mem_iff_getElem?.mpr ⟨i,?_⟩;rw[List.getElem?_zip_eq_some];refine⟨?_,?_⟩
 .rw[Aa9,Cj,h];rfl
 .rw[Cj,Af w]
end LH
namespace L2
open PySem PySem.Spec PyProof.Rows
section
variable {prog:Program}{w:World}{A:Around}{E:Ef}{s:Shared}
def cY0 (prog:Program)(w:World)(h:Heap)(v:Value):Prop:=∃b y,v=.ref b/\IsTupleKey (intKind prog w) h y b
theorem cI6 (U:IsTupleKey (intKind prog w) s.heap ks a)(M:∀v∈vs,cY0 prog w s.heap v)(h:Q false s):wpAny (model prog w) A (searchCouldBeSeen (.ref a) vs) Q E s:=by
 unfold searchCouldBeSeen;refine Aa ?_;refine wpAny_forIn_list _ (λz r Y=>r.1=none/\Y=s/\∀v∈z,cY0 prog w s.heap v) _ ?_ ?_ _ _ ⟨rfl,rfl,M⟩
 .rintro v z r Y ⟨hr,rfl,m⟩;obtain⟨b,y,rfl,J⟩:=m v Aj;have e:∀u∈z,cY0 prog w Y.heap u:=λu X=>m u (Ad4 _ X)
  dsimp only
  split
  .exact Ab ⟨rfl,rfl,e⟩
  .refine Aa (wpAny_eqIsQuiet_tuple U ?_);simp only[Bool.not_true,Av,if_false];refine Aa (wpAny_eqIsQuiet_tuple J ?_);simp only[Bool.not_true,Av,if_false];refine Aa (aU5 U ?_);simp only[Av,if_false];refine Aa (aU5 J ?_);simp only[Av,if_false];exact Ab ⟨rfl,rfl,e⟩
 .rintro⟨N,R⟩ Y ⟨hr,rfl,_⟩;simp only at hr;subst hr;exact Ab h
theorem aS8 {S a:Addr}{o:Obj}{es:Array (Int×Value)}{ep:Nat}{t:SetTable}{x:List Int}{h:Int}{ky:Addr->List Int}{Q:SetFound->Shared->Prop}(hu:A.units<cLine)(ho:s.heap.get? S=some o)(hd:o.data=.set es ep t)(T:TabOk t es.size)(X:LH.Inc t.place)(hx:IsTupleKey (intKind prog w) s.heap x a)
  (R:∀e∈es.toList,∃b,e.2=.ref b/\IsTupleKey (intKind prog w) s.heap (ky b) b)
  (hq:∀j,(∀e∈es.toList,∀b,e.2=.ref b->ky b≠x)->LH.Pth t h j->t.slot j=.empty->Q (.free j false) s) (hf:(∃e∈es.toList,∃b,e.2=.ref b/\ky b=x)->Q (.there none) s) :
  ∀(fuel n k:Nat) (stand:Option SetTable.Probe),n<fuel->n<=10*(t.mask+13)->LH.Rch t (stand.getD (t.probeStart h)) n->stand.getD (t.probeStart h)=LH.adv t k (t.probeStart h)->(∀k',k'<k->LH.stj t h k'∈t.place) ->
   ((∀e∈es.toList,∀b,e.2=.ref b->ky b≠x)\/∃(k0 i:Nat) (b:Addr),k<=k0/\t.place[i]? = some (LH.stj t h k0)/\(∀k',k'<k0->LH.stj t h k'∈t.place)/\es[i]? = some (h,Value.ref b)/\ky b=x) ->
   wpAny (model prog w) A (setSearchFrom S (.ref a) h true fuel stand) Q E s
 | 0,n,k,stand,hfu,_,_,_,_,_=>absurd hfu (by lia)
 | fuel+1,n,k,stand,hfu,hn,hr,hst,hpl,hpr=>by
  unfold setSearchFrom;refine Aa (Ca ho hd T.fits ?_);dsimp only;have hg:t.gaveWay=false:=by
   unfold SetTable.gaveWay;rcases T.mq with z | z <;> rw[z.1] <;> rfl
  rw[hg];simp only[Av,if_false];generalize P:t.probe _ h (stand.getD (t.probeStart h))=pr;have P:t.probe (λi=>(es[i]?.map (·.1)).getD 0) h (stand.getD (t.probeStart h))=pr:=P
  obtain⟨m,h1,h2⟩:∃m,pr=some m/\LH.Mt t n m:=by rw[<- P];exact LH.probe_met T.dm _ h hr hn
  subst h1;rw[hst]at P;have hgo:=LH.go_ok T.dm _ h _ k m hpl P
  clear P
  dsimp only
  have U:∀{k j},t.slot (LH.stj t h k)=.empty->t.place[j]? = some (LH.stj t h k)->False:=λ{k j} e1 e2=>by
   rw[LH.slot_live X e2]at e1;cases e1
  have D:∀{k},t.slot (LH.stj t h k)=.empty->LH.stj t h k∈t.place->False:=λ{k} e1 e2=>by
   obtain⟨j,hj⟩:=Array.mem_iff_getElem?.mp e2;exact U e1 hj
  cases h2 with
  | @emp j=>
   obtain⟨k2,a1,a2,a3,F,a5⟩:=hgo;refine Ab (hq _ ?_ ⟨k2,a2,a3⟩ F);rcases hpr with z | ⟨k0,i,b,b1,B,b3,b4,b5⟩
   .exact z
   .exfalso
    subst a2;rcases Nat.lt_trichotomy k2 k0 with z | z | z
    .exact D F (b3 k2 z)
    .rw[z]at F;exact U F B
    .obtain⟨i',c1,N⟩:=a5 k0 b1 z;rw[LH.slot_live X B]at c1;cases c1;dsimp only at N;rw[b4]at N;simp at N
  | @cand j i next n' hs hp hn' hr'=>
   obtain⟨k2,a1,a2,a3,F,a5,a6⟩:=hgo;dsimp only;have hi:i<es.size:=by rw[<- T.sz];exact(Bz.mp hp).1
   obtain⟨⟨h',v⟩,Y⟩:∃e,es[i]? = some e:=⟨_,Af hi⟩;have M:(h',v)∈es.toList:=Array.mem_toList_iff.mpr (Array.mem_of_getElem? Y);obtain⟨b,ev,hy⟩:=R (h',v) M;have ev:v=.ref b:=ev;subst ev;have hsm:t.sameMemory t.moves t.mask=some true:=by simp[SetTable.sameMemory]
   have hstd:∀v∈(es.filter (·.1==h)).toList.map (·.2),cY0 prog w s.heap v:=λv hv=>by
    obtain⟨e,he,rfl⟩:=Aa8.mp hv;rw[Array.toList_filter]at he;obtain⟨b,h1,h2⟩:=R e (Au.mp he).1;exact⟨b,_,h1,h2⟩
   cases t.led
   case' false=>
    simp only[Bool.not_false,if_true];refine Aa (cI6 hx hstd ?_);simp only[Av,if_false]
   case' true=>simp only[Bool.not_true,Av,if_false]
   all_goals
    rw[Y];dsimp only;refine Aa (Bk (wpAny_eqBool_tuple hu hy hx ?_));by_cases J:ky b=x
    .rw[Bc J];refine Aa (Ca ho hd T.fits ?_);simp only[Bool.and_self,if_true];exact Ab (hf ⟨_,M,b,rfl,J⟩)
    .rw[Aq J];refine Aa (Ca ho hd T.fits ?_);simp only[Bool.and_false,Av,if_false];rw[hsm];simp only[if_true];rw[hs];dsimp only;rw[Y];dsimp only;refine Aa ?_;refine wpAny_of_eq (a:=true) (Ae (beq_self_eq_true _)) ?_;refine Aa (Ab ?_);simp only[if_true];refine aS8 hu ho hd T X hx R hq hf fuel n' (k2+1) (some next) (by lia) (by lia) hr' F a3 ?_
     rcases hpr with z | ⟨k0,i0,b0,b1,B,b3,b4,b5⟩
     .exact .inl z
     .refine .inr ⟨k0,i0,b0,?_,B,b3,b4,b5⟩;subst a2;rcases Nat.lt_trichotomy k2 k0 with z | z | z
      .exact z
      .exfalso
       subst z;rw[LH.slot_live X B]at hs;cases hs;rw[b4]at Y;cases Y;exact J b5
      .exfalso
       obtain⟨i',c1,N⟩:=a6 k0 b1 z;rw[LH.slot_live X B]at c1;cases c1;dsimp only at N;rw[b4]at N;simp at N
def SetT (prog:Program)(w:World)(ky:Addr->List Int)(h:Heap)(S:Addr)(as:List Addr):Prop:=∃o es ep t,h.get? S=some o/\o.ExactSet/\o.data=.set es ep t/\TabOk t es.size/\LH.Inc t.place/\t.plain=true/\t.led = !(w.params.followText "set-order")/\(∀e∈es.toList,∃a,a∈as/\e.2=.ref a/\e.1=tupleKeyHash (intKind prog w) (ky a))/\LH.Fnd t (es.toList.map (·.1))/\(es.toList.map (·.2)).Perm (as.map Value.ref)
theorem cF8 {S:Addr}{o:Obj}{es:Array (Int×Value)}{ep:Nat}{t:SetTable}{Q:Unit->Shared->Prop}(ho:s.heap.get? S=some o)(M:o.data=.set es ep t)(B:t.fits es.size=true)(F:es.size=5)
  (P:∀(es':Array (Int×Value)) (t':SetTable),es'.toList.Perm es.toList->TabOk t' es.size->LH.Inc t'.place->t'.plain=t.plain->t'.led=t.led->LH.Fnd t' (es'.toList.map (·.1))->Q () {s with heap:=s.heap.update S (Obj.putSet es' t')}):wpAny (model prog w) A (setRelay S 20) Q E s:=by
 unfold setRelay;refine Aa (Ca ho M B ?_);dsimp only;rw[Ac (by rw[Cu];decide)]
 obtain⟨t',z,h1,R,D,U,J⟩:=LH.laid_some LH.full31 (es.map (·.1)) (by rw[Array.size_map];lia) t.finger (t.movedTo 31) t.led t.plain
 have X:=LH.laid_inc h1
 have Y:=LH.laid_fnd LH.full31 (by lia) h1
 have m:t'.plain=t.plain/\t'.led=t.led:=by
  unfold SetTable.laid at h1;cases e:SetTable.layClean 31 (es.map (·.1)) with
  | none=>rw[e]at h1;cases h1
  | some o=>
   rw[e]at h1;have h:=Ab4 h1;rw[<- (Prod.mk.inj h).1];exact⟨rfl,rfl⟩
 have h1:t.relaid (es.map (·.1)) 20=some (t',z):=h1
 rw[Array.size_map]at U J;have hp:(z.filterMap (es[·]?)).toList.Perm es.toList:=by
  rw[Array.toList_filterMap];exact(J.filterMap _).trans (by rw[filterMap_getElem?_range])
 have N:(z.filterMap (es[·]?)).size=es.size:=by rw[<- Array.length_toList,hp.length_eq,Am]
 rw[h1];refine Aa (wpAny_of_eq (a:=(z.filterMap (es[·]?),t')) ?_ ?_)
 .show(if((z.filterMap (es[·]?)).size != es.size)=true then _ else _)=_
  rw[N];simp
 .exact wpAny_storeSet_of ho M (P _ _ hp ⟨D,U,.inr ⟨R,by lia⟩⟩ X m.1 m.2 Y) (by rw[N,F,Cu];lia)
theorem cA0 {ky:Addr->List Int}{S a:Addr}{as:List Addr}{Q:Bool->Shared->Prop}(hu:A.units<cLine)(hS:SetT prog w ky s.heap S as)(hlen:as.length<=16)(hx:IsTupleKey (intKind prog w) s.heap (ky a) a)(hv:∀b∈as,IsTupleKey (intKind prog w) s.heap (ky b) b)
  (M:ky a∈as.map ky->∀tk,s.toks<=tk->Q false {s with toks:=tk})
  (h:ky a∉as.map ky->∀h' tk,s.toks<=tk->Heap.SameBut S s.heap h'->SetT prog w ky h' S (a::as)->Q true {s with heap:=h',toks:=tk}):wpAny (model prog w) A (setAdd S (.ref a)) Q E s:=by
 obtain⟨o,Y,ep,t,ho,hex,hd,T,N,hpl,hld,R,hfn,hp⟩:=hS;have hn:Y.size=as.length:=by rw[<- Array.length_toList,<- Aa3 (f:=(·.2)),hp.length_eq,Aa3]
 have hes:∀e∈Y.toList,∃b,e.2=.ref b/\IsTupleKey (intKind prog w) s.heap (ky b) b:=λe he=>by
  obtain⟨b,h1,J,_⟩:=R e he;exact⟨b,J,hv b h1⟩
 unfold setAdd;refine Bk ?_;refine Aa (wpAny_pyHash_tuple hu hx ?_);have h:=λz h'=>h z h' (s.toks+((ky a).length+1)) (Nat.le_add_right _ _)
 have M:=λz=>M z (s.toks+((ky a).length+1)) (Nat.le_add_right _ _)
 revert h M
 generalize hs1:({s with toks:=s.toks+((ky a).length+1)}:Shared)=s1
 have e1:s1.heap=s.heap:=by rw[<- hs1]
 intro h M;have h:ky a∉as.map ky->∀h',Heap.SameBut S s1.heap h'->SetT prog w ky h' S (a::as)->Q true {s1 with heap:=h'}:=λz h' x b=>by
  rw[e1]at x
  have:=h z h' x b
  rw[<- hs1];exact this
 rw[<- e1]at ho hx hes
 clear hs1 hv
 obtain⟨U,D⟩:∃U,U=tupleKeyHash (intKind prog w) (ky a):=⟨_,rfl⟩;rw[<- D];have hmemk:(∃e∈Y.toList,∃b,e.2=.ref b/\ky b=ky a)->ky a∈as.map ky:=λ⟨e,he,b,e1,e2⟩=>by
  obtain⟨b',h1,J,_⟩:=R e he;rw[e1]at J;cases J;exact Aa8.mpr ⟨b,h1,e2⟩
 have F:(∀e∈Y.toList,∀b,e.2=.ref b->ky b≠ky a)->ky a∉as.map ky:=λz y=>by
  obtain⟨b,h1,J⟩:=Aa8.mp y;obtain⟨e,h3,h4⟩:=Aa8.mp (hp.mem_iff.mpr (Aa8.mpr ⟨b,h1,rfl⟩));exact z e h3 b h4 J
 have hpr:(∀e∈Y.toList,∀b,e.2=.ref b->ky b≠ky a)\/∃(k0 i:Nat) (b:Addr),0<=k0/\t.place[i]? = some (LH.stj t U k0)/\(∀k',k'<k0->LH.stj t U k'∈t.place)/\Y[i]? = some (U,Value.ref b)/\ky b=ky a:=by
  by_cases hc:∃e∈Y.toList,∃b,e.2=.ref b/\ky b=ky a
  .obtain⟨e,he,b,e2,e3⟩:=hc;obtain⟨i,hi⟩:=Array.mem_iff_getElem?.mp (Array.mem_toList_iff.mp he);obtain⟨b',h1,J,h3⟩:=R e he;rw[e2]at J;cases J;obtain⟨j,h4,k0,h5,h6⟩:=LH.fnd_at hfn T.sz hi;rw[h3,e3,<- D]at h5 h6;refine .inr ⟨k0,i,b,Ci _,by rw[h4,h5],h6,?_,e3⟩
   rw[hi];obtain⟨e1,e2'⟩:=e;have e2:e2'=.ref b:=e2;have h3:e1=_:=h3;rw[e2,h3,e3,<- D]
  .exact .inl λe he b h1 J=>hc ⟨e,he,b,h1,J⟩
 unfold setAddHashed setAddHashedIn;refine Bk (Aa (Ca ho hd T.fits ?_));dsimp only;rw[show byScan (.ref a) Y=false from rfl]
 simp only[Av,if_false];unfold setSearch;refine Aa (aS8 hu ho hd T N hx hes (λj hno hpth hslot=>?_) (λhc=>?_) 100000 _ 0 none (by have:=T.mq;lia) (Aa7 _) (T.rch U) rfl (λk' hk=>absurd hk (by lia)) hpr)
 rotate_left
 .exact Ab (M (hmemk hc))
 have h:=h (F hno)
 dsimp only
 refine Aa (Ca ho hd T.fits ?_);dsimp only;obtain⟨p1,p2,p3⟩:=T.put j;have p4:=LH.put_inc N (LH.slot_free N hslot);have p5:(t.put j).1.plain=t.plain:=rfl;have p6:(t.put j).1.led=t.led:=rfl;have p7:=LH.put_fnd hfn (by rw[Aa3,Am,T.sz]) hpth
 generalize hput:t.put j=tp at p1 p2 p3 p4 p5 p6 p7;obtain⟨t1,p⟩:=tp;dsimp only at p1 p2 p3 p4 p5 p6 p7 ⊢;rw[p5,hpl];simp only[if_true];refine Aa (cE0 hx ?_);simp only[if_true];have hpm:(SetTable.insertAt Y p (U,.ref a)).toList.Perm ((U,.ref a)::Y.toList):=(SetTable.insertAt_perm _ _ _).trans (by rw[Array.toList_push];exact List.perm_append_singleton _ _)
 have hz:(SetTable.insertAt Y p (U,Value.ref a)).size=Y.size+1:=by rw[<- Array.length_toList,hpm.length_eq];simp
 have hvs:((SetTable.insertAt Y p (U,Value.ref a)).toList.map (·.2)).Perm ((a::as).map Value.ref):=(hpm.map _).trans (hp.cons _)
 have B:∀e∈(SetTable.insertAt Y p (U,Value.ref a)).toList,∃b,b∈a::as/\e.2=.ref b/\e.1=tupleKeyHash (intKind prog w) (ky b):=λe he=>by
  rcases Aa1.mp (hpm.mem_iff.mp he) with rfl | he
  .exact⟨a,Aj,rfl,D⟩
  .obtain⟨b,h1,J⟩:=R e he;exact⟨b,Ad4 _ h1,J⟩
 have hfn1:LH.Fnd t1 ((SetTable.insertAt Y p (U,Value.ref a)).toList.map (·.1)):=by
  rw[LH.insertAt_list,Ad2,Ac7,List.map_take,List.map_drop];exact p7
 refine Aa (wpAny_storeSet_of ho hd ?_ (by rw[hz,Cu];lia))
 have hg:=bW9 ho hd (SetTable.insertAt Y p (U,.ref a)) t1
 have hsb:=Cp s1.heap S (Obj.putSet (SetTable.insertAt Y p (U,.ref a)) t1)
 have X:t1.fill=Y.size+1:=by unfold SetTable.fill;rw[p1,p2];rfl
 by_cases m:t1.tooFull=true
 .rw[m];simp only[Bool.not_false,Bool.and_self,if_true];unfold SetTable.tooFull at m;have m:=Ax m;rw[X,p3]at m;have h4:Y.size=4:=by have:=T.mq;lia
  have hm:t1.mask=7:=by rw[p3];have:=T.mq;lia
  rw[show SetTable.grown (Y.size+1)=20 by rw[h4];rfl]
  refine Aa (cF8 hg rfl (by unfold SetTable.fits;rw[X,p2,hz,hm,h4];rfl) (by rw[hz,h4]) λP t' q1 q2 q3 q4 q5 q6=>?_)
  refine Ab ?_;have hg2:=bW9 hg rfl P t';refine h _ (hsb.trans (Cp _ S _)) ⟨_,P,_,t',hg2,hex,rfl,?_,q3,by rw[q4,p5,hpl],by rw[q5,p6,hld],λe he=>B e (q1.mem_iff.mp he),q6,(q1.map _).trans hvs⟩
  rw[show P.size=(SetTable.insertAt Y p (U,Value.ref a)).size by rw[<- Array.length_toList,q1.length_eq,Am]]
  exact q2
 .rw[Bool.not_eq_true]at m;rw[m];simp only[Bool.and_false,Av,if_false];refine Ab (h _ hsb ⟨_,_,_,t1,hg,hex,rfl,⟨p1,by rw[p2,hz],?_⟩,p4,by rw[p5,hpl],by rw[p6,hld],B,hfn1,hvs⟩)
  unfold SetTable.tooFull at m;have m:=Bu m;rw[X,p3]at m;rw[p3,hz]
  have:=T.mq
  lia
end
end L2
namespace LH
open PySem
theorem X0:∀(l:List α) (i:Nat) (h:i<l.length),(l[i]::l.eraseIdx i).Perm l
 | a::l,0,_=>List.Perm.refl _
 | a::l,i+1,h=>by
  show(l[i]'(by simpa using h)::a::l.eraseIdx i).Perm (a::l)
  exact(List.Perm.swap _ _ _).trans ((X0 l i (by simpa using h)).cons a)
theorem cA3 (next:Nat->Nat):∀(fuel k:Nat) (left:List α) (out:Array α),left.length<=fuel->(pickOrder.go next fuel k left out).toList.Perm (out.toList++left)
 | 0,k,left,out,h=>by
  have:left=[]:=List.eq_nil_of_length_eq_zero (by lia)
  subst this;unfold pickOrder.go;rw[Cd]
 | fuel+1,k,left,out,h=>by
  unfold pickOrder.go;cases left with
  | nil=>
   rw[Cd];split
   .rename_i e;simp at e
   .exact List.Perm.refl _
  | cons a l=>
   have w:next k % (a::l).length<(a::l).length:=Nat.mod_lt _ (by simp)
   rw[Aa2 w];dsimp only;refine(cA3 next fuel (k+1) _ _ (by rw[List.length_eraseIdx_of_lt w];lia)).trans ?_
   rw[Array.toList_push,Ad7,List.singleton_append];refine List.Perm.append_left _ ?_;exact X0 _ _ w
theorem pick_perm (next:Nat->Nat)(xs:Array α):(pickOrder next xs).toList.Perm xs.toList:=by
 unfold pickOrder;exact(cA3 next xs.size 0 xs.toList #[] (by simp)).trans (by simp)
end LH
namespace L2
open PySem PySem.Spec PyProof.Rows
theorem slot_setit_next:Slot "set_iterator" "__next__" "set_iterator.__next__" :=
 .of (owner := "set_iterator") (n := "__next__") (by rw[typeLookup_type,builtinLookup_eq_fast];kernel_rfl) (by decide +kernel) (by decide +kernel) (by decide +kernel)
  (by first | exact .inl (by decide +kernel) | exact .inr (by decide +kernel)) (by rw[As];kernel_rfl)
theorem e8:entryFor table "set_iterator.__next__" = some Builtin.«set_iterator.__next__» := entryFor_of_tree (by kernel_rfl)
theorem p9 (a:Value):argsOk "set_iterator.__next__" ⟨[a],[]⟩:=by
 unfold argsOk;kernel_rfl
def SetIt (h:Heap)(I S:Addr)(slot given n ep:Nat):Prop:=∃o,h.get? I=some o/\o.cls=.type "set_iterator" /\ o.data=.fields #[.int slot 0,.int given 0,.ref S,.int n 0,.int ep 0]
theorem SetIt.typeIs {s:Shared}{I S:Addr}{sl g n ep:Nat}(x:SetIt s.heap I S sl g n ep):s.TypeIs (.ref I) "set_iterator" := let ⟨o,ho,e,_⟩:=x;⟨o,ho,e⟩
def aC1 (w:World)(S:Addr)(ep:Nat)(es:Array (Int×Value)):Array (Int×Value):=if w.params.followText "set-order" then pickOrder (w.params.setOrder S ep) es else es
theorem U9 (w:World)(S:Addr)(ep:Nat)(es:Array (Int×Value)):(aC1 w S ep es).toList.Perm es.toList:=by
 unfold aC1;split
 .exact LH.pick_perm _ _
 .exact List.Perm.refl _
def aE6 (w:World)(t:SetTable)(i:Nat):Nat:=if w.params.followText "set-order" then 0 else if i=0 then 0 else t.place.getD (i-1) 0+1
section
variable {prog:Program}{w:World}{A:Around}{E:Ef}{s:Shared}
theorem aX7 (ho:s.heap.get? S=some o)(F:o.data=.set es ep t)(T:TabOk t es.size)(J:LH.Inc t.place)(D:t.plain=true)(M:t.led = !(w.params.followText "set-order"))
  (hi:i<=es.size) (h:Q (((aC1 w S ep es)[i]?).map λe=>(e.2,aE6 w t (i+1))) s):wpAny (model prog w) A (setNext S (aE6 w t i) i ep) Q E s:=by
 unfold setNext;refine Aa (Ca ho F T.fits ?_);dsimp only;refine Aa (m:=setsByText) ?_;unfold setsByText;refine Aa (wpAny_askSetting (Ab ?_));by_cases X:w.params.followText "set-order" = true
 .have Y:(model prog w).w.params.followText "set-order" = true:=X
  dsimp only
  rw[Ae Y];rw[Ac (by simp)]
  refine Aa ?_;unfold setWalk;refine Aa (Ca ho F T.fits ?_);dsimp only;refine Aa (m:=setsByText) ?_;unfold setsByText;refine Aa (wpAny_askSetting (Ab ?_));dsimp only;rw[Ae Y];refine Aa (wpAny_askSetting (Ab (Ab ?_)));unfold aC1 aE6 at h;simp only[X,if_true]at h;unfold aE6;simp only[X,if_true];exact h
 .have Y:¬(model prog w).w.params.followText "set-order" = true:=X
  dsimp only
  rw[Ac Y];have B:t.led=true:=by rw[M];simpa using X
  show wpAny _ _ (if(!t.plain&&decide (es.size>1))=true then _ else _) _ _ _
  rw[Ac (by rw[D];simp)]
  refine Aa (wpAny_of_eq (a:=()) ?_ ?_)
  .show(if(!t.led && !es.isEmpty)=true then _ else _)=_
   rw[Ac (by rw[B];simp)]
  have R:SetTable.below t.place (aE6 w t i)=i:=by
   unfold aE6;rw[Ac X];by_cases N:i=0
   .rw[Ae N,N];exact LH.below_zero _ J
   .rw[Ac N];have z:i-1<t.place.size:=by rw[T.sz];lia
    rw[Ak,Af z]
    have:=LH.below_next J z
    show SetTable.below t.place (t.place[i-1]+1)=i
    lia
  refine Ab ?_;rw[R];unfold aC1 at h;rw[Ac X]at h;by_cases z:i<es.size
  .have U:i<t.place.size:=by rw[T.sz];exact z
   rw[Af z,Af U];rw[Af z]at h;unfold aE6 at h;rw[Ac X,Ac (by lia),Nat.add_sub_cancel,Ak,Af U]at h
   exact h
  .rw[Cb (by lia)]at h ⊢
   exact h
theorem cH5 (x:SetIt h I S sl g n ep)(e g':Nat):∃o o',h.get? I=some o/\o.data=.fields #[.int sl 0,.int g 0,.ref S,.int n 0,.int ep 0]/\(h.update I (Obj.mapFields (·.setIfInBounds 0 (rawInt e)))).get? I=some o'/\o'.data=.fields #[.int e 0,.int g 0,.ref S,.int n 0,.int ep 0]/\SetIt ((h.update I (Obj.mapFields (·.setIfInBounds 0 (rawInt e)))).update I (Obj.mapFields (·.setIfInBounds 1 (rawInt g')))) I S e g' n ep:=by
 obtain⟨o,ho,X,m⟩:=x;have h1:=Bq (Obj.mapFields (·.setIfInBounds 0 (rawInt e))) ho (Obj.isFreed_of_fields (Obj.data_mapFields m _));have z:(Obj.mapFields (·.setIfInBounds 0 (rawInt e)) o).data=.fields #[.int e 0,.int g 0,.ref S,.int n 0,.int ep 0]:=by
  rw[Obj.data_mapFields m];simp[rawInt]
 have Y:=Bq (Obj.mapFields (·.setIfInBounds 1 (rawInt g'))) h1 (Obj.isFreed_of_fields (Obj.data_mapFields z _))
 refine⟨o,_,ho,m,h1,z,_,Y,(Obj.cls_mapFields ..).trans ((Obj.cls_mapFields ..).trans X),?_⟩;rw[Obj.data_mapFields z];simp[rawInt]
theorem bJ3 {I S:Addr}{o:Obj}{es:Array (Int×Value)}{ep:Nat}{t:SetTable}{i:Nat}{v:Int×Value}{Q:Option Value->Shared->Prop}(hne:S≠I)(e:SetIt s.heap I S (aE6 w t i) i es.size ep)(ho:s.heap.get? S=some o)(N:o.data=.set es ep t)(T:TabOk t es.size)(Y:LH.Inc t.place)(X:t.plain=true)(z:t.led = !(w.params.followText "set-order"))
  (R:(aC1 w S ep es)[i]? = some v) (P:∀h',SetIt h' I S (aE6 w t (i+1)) (i+1) es.size ep->Heap.SameBut I s.heap h'->Q (some v.2) {s with heap:=h'}):wpAny (model prog w) A (pyNext (.ref I)) Q E s:=by
 have hi:i<es.size:=by
  have:=(Bz.mp R).1
  rw[<- Array.length_toList,(U9 w S ep es).length_eq,Am]at this;exact this
 obtain⟨oi,oi',J,M,D,F,B⟩:=cH5 e (aE6 w t (i+1)) (i+1);unfold pyNext;refine Aa (wpAny_attempt (Bj (name:=Str.ofString "__next__") e.typeIs slot_setit_next
  (Bf slot_setit_next e.typeIs e8 ?_ (p9 _))))
 show wpAny _ _ (fieldsOf (.ref I) >>= _) _ _ s
 refine Aa (wpAny_fieldsOf J M ?_);dsimp only;refine Aa (m:=setEntries S) ?_;unfold setEntries;refine Aa (Ca ho N T.fits (Ab ?_));dsimp only;rw[Ac (by simp)]
 simp only[Ac8];refine Aa (aX7 ho N T Y X z (Cq hi) ?_);rw[R];dsimp only[Option.map_some];refine Aa (wpAny_setField J M (by simp) ?_)
 refine Aa (wpAny_setField D F (by simp) (Ab ⟨v.2,rfl,Ab ?_⟩))
 have U:=(Cp s.heap I (Obj.mapFields (·.setIfInBounds 0 (rawInt (aE6 w t (i+1):Nat))))).trans (Cp _ I (Obj.mapFields (·.setIfInBounds 1 (rawInt ((i:Int)+1)))))
 exact P _ B U
theorem bO8 {I S:Addr}{o:Obj}{es:Array (Int×Value)}{ep:Nat}{t:SetTable}{Q:Option Value->Shared->Prop}(N:A.handled=none)(D:S≠I)(e:SetIt s.heap I S (aE6 w t es.size) es.size es.size ep)(ho:s.heap.get? S=some o)(M:o.data=.set es ep t)(T:TabOk t es.size)(Y:LH.Inc t.place)(X:t.plain=true)(z:t.led = !(w.params.followText "set-order"))
  (R:∀h',Heap.ExtBut I s.heap h'->Q none {s with heap:=h'}):wpAny (model prog w) A (pyNext (.ref I)) Q E s:=by
 obtain⟨oi,B,U,J,P,g4,g5⟩:=cH5 e 0 0;have F:(aC1 w S ep es)[es.size]? = none:=Cb (by rw[<- Array.length_toList,(U9 w S ep es).length_eq,Am];exact Aa7 _)
 unfold pyNext;refine Aa (wpAny_attempt (Bj (name:=Str.ofString "__next__") e.typeIs slot_setit_next
  (Bf slot_setit_next e.typeIs e8 ?_ (p9 _))))
 show wpAny _ _ (fieldsOf (.ref I) >>= _) _ _ s
 refine Aa (wpAny_fieldsOf U J ?_);dsimp only;refine Aa (m:=setEntries S) ?_;unfold setEntries;refine Aa (Ca ho M T.fits (Ab ?_));dsimp only;rw[Ac (by simp)]
 simp only[Ac8];refine Aa (aX7 ho M T Y X z (Aa7 _) ?_);rw[F];dsimp only[Option.map_none];refine Aa (wpAny_setField U J (by simp) ?_)
 refine Aa ?_;simp only[newExc,newTuple];refine Aa (Be ?_ (by size_fits))
 refine Aa (m:=firstArgMember _ _) (wpAny_of_eq (a:=Value.none) (by first | rfl | (simp only[firstArgMember];rfl)) ?_)
 refine Be ?_ (by size_fits)
 simp only[raiseNew];refine Aa (wpAny_handled ?_);first | rw[show A.in1.handled=none from N] | rw[N]
 refine Aa (Ab (wpAny_throw ?_));refine Aa (wpAny_isInstance (T := "StopIteration") (b:=true) ⟨_,Ac3 _ rfl,rfl⟩ isSubtype_stop ?_);exact Ab (R _ (((Cp ..).extBut.push _).push _))
end
theorem r6:Slot "set_iterator" "__iter__" "set_iterator.__iter__" :=
 .of (owner := "set_iterator") (n := "__iter__") (by rw[typeLookup_type,builtinLookup_eq_fast];kernel_rfl) (by decide +kernel) (by decide +kernel) (by decide +kernel)
  (by first | exact .inl (by decide +kernel) | exact .inr (by decide +kernel)) (by rw[As];kernel_rfl)
theorem aP4 (a:Value):argsOk "set_iterator.__iter__" ⟨[a],[]⟩:=by
 unfold argsOk;kernel_rfl
theorem SetIt.at_ {h h':Heap}{I S:Addr}{sl g n ep:Nat}(x:SetIt h I S sl g n ep)(e:∀o,h.get? I=some o->h'.get? I=some o):SetIt h' I S sl g n ep:=by
 obtain⟨o,ho,r⟩:=x;exact⟨o,e o ho,r⟩
section
variable {prog:Program}{w:World}{A:Around}{E:Ef}{s:Shared}
theorem aM2:entryFor table "set_iterator.__iter__" = some Builtin.«dict_keyiterator.__iter__» :=
 entryFor_alias (id' := "dict_keyiterator.__iter__") (by kernel_rfl) rfl (by decide +kernel) (by kernel_rfl)
theorem bS2 {I S:Addr}{sl g n ep:Nat}{Q:Ef}(e:SetIt s.heap I S sl g n ep)(h:Q (.ref I) s):wpAny (model prog w) A (pyIter (.ref I)) Q E s:=by
 refine wpAny_pyIter_slot e.typeIs r6 (Bf r6 e.typeIs aM2 ?_ (aP4 _));show wpAny _ _ (ret (.ref I)) _ _ s;exact Ab ⟨_,rfl, "set_iterator",_,e.typeIs,slot_setit_next.lookup,h⟩
theorem cO4 (hh:A.handled=none)(I S:Addr)(m:S≠I)(T:TabOk t es.size)(J:LH.Inc t.place)(R:t.plain=true)(z:t.led = !(w.params.followText "set-order")) :
  Walks prog w A I [I,S] [I] es.size (λi v=>∃e,(aC1 w S ep es)[i]? = some e/\v=e.2) (λi h=>SetIt h I S (aE6 w t i) i es.size ep/\∃o,h.get? S=some o/\o.data=.set es ep t) where
 sub:=λb Y=>by simp at Y;simp[Y]
 frame:=λ_ _ _ st P=>⟨st.1.at_ λo e=>P I (by simp) o e,by
  obtain⟨o,ho,X⟩:=st.2;exact⟨o,P S (by simp) o ho,X⟩⟩
 item:=λi s Q E hi st U=>by
  obtain⟨o,ho,X⟩:=st.2;have N:i<(aC1 w S ep es).size:=by rw[<- Array.length_toList,(U9 w S ep es).length_eq,Am];exact hi
  refine bJ3 m st.1 ho X T J R z (Af N) λF M D=>?_
  exact U _ F s.toks ⟨_,Af N,rfl⟩ ⟨M,o,(D.2 S m).trans ho,X⟩ λb o Y e=>D.extBut b o (λh=>Y (by simp[h])) e
 done:=λs Q E st U=>by
  obtain⟨o,ho,X⟩:=st.2;exact bO8 hh m st.1 ho X T J R z λF B=>U F s.toks λb o Y e=>B b o (λh=>Y (by simp[h])) e
 self:=λi s Q E st U=>bS2 st.1 U
theorem aP1:entryFor table "set.__iter__" = some Builtin.«frozenset.__iter__» :=
 entryFor_alias (id' := "frozenset.__iter__") (by kernel_rfl) rfl (by decide +kernel) (by kernel_rfl)
theorem bN1 (Y:s.TypeIs (.ref S) "set")(ho:s.heap.get? S=some o)(e:o.data=.set es ep t)(T:TabOk t es.size)(z:t.plain=true)
  (X:Q (.ref s.heap.objs.size) {s with heap:=s.heap.push {cls:=.type "set_iterator",data:=.fields #[.int 0 0,.int 0 0,.ref S,.int es.size 0,.int ep 0]}}):wpAny (model prog w) A (pyIter (.ref S)) Q E s:=by
 refine wpAny_pyIter_slot Y F.slot_set_iter (Bf F.slot_set_iter Y aP1 ?_ (F.args_set_iter_1 _));unfold Builtin.«frozenset.__iter__» Builtin.Frozenset.slot0 slotArgs;simp only[List.isEmpty_nil,Bool.not_true,Av,↓reduceIte,bind_assoc,List.length_nil,bne_self_eq_false];unfold Builtin.Frozenset.addrOf Builtin.Frozenset.sizeOf;refine Aa (Ab ?_)
 try dsimp only
 refine Aa (Ab ?_);refine Aa (Aa (wpAny_setEntries_of ho e T.fits (Ab ?_)));refine Aa (m:=setDrawn S) ?_;unfold setDrawn;refine Aa (Ca ho e T.fits ?_);dsimp only;refine Aa (m:=setsByText) ?_;unfold setsByText;refine Aa (wpAny_askSetting (Ab (Ab ?_)));show wpAny _ _ (if(!((model prog w).w.params.followText "set-order")&&(!t.plain&&decide (es.size>1)))=true then _ else _) _ _ _;rw[Ac (by rw[z];simp)]
 refine Aa (Ab ?_);refine Aa (wpAny_setEpoch_of ho e T.fits ?_);exact Aa (Be (Ab ⟨_,rfl, "set_iterator",_,⟨_,Ac3 _ rfl,rfl⟩,slot_setit_next.lookup,X⟩))
theorem aN9 (hh:A.handled=none)(hT:s.TypeIs (.ref S) "set")(ho:s.heap.get? S=some o)(hd:o.data=.set es ep t)(T:TabOk t es.size)(hin:LH.Inc t.place)(hpl:t.plain=true)(hled:t.led = !(w.params.followText "set-order"))
  (hQ:∀h' tk,s.heap.objs.size<=h'.objs.size->(∀b o,s.heap.get? b=some o->h'.get? b=some o)->Q ((aC1 w S ep es).toList.map (·.2)) {s with heap:=h',toks:=tk}):wpAny (model prog w) A (collect (.ref S)) Q E s:=by
 have hlt:=Ab3 ho
 have M:s.heap.objs.size≠S:=Nat.ne_of_gt hlt
 unfold collect;refine Aa (wpAny_runValue (codeAny_builtin F.entry_proto_collect ?_));rw[Around.under_plainId F.plain_proto_collect _];show wpAny _ A.in1 (newList [] >>= λl=>again (.builtin "list.__iadd__" ⟨[l,.ref S],[]⟩)) _ _ s
 refine Aa (Be ?_);refine Ab ⟨plainId_quiet F.plain_list_iadd _,codeAny_builtin F.entry_list_iadd ?_⟩;rw[Around.under_plainId F.plain_list_iadd _];have ho1:(s.heap.push {cls:=.type "list",data:=.seq ([]:List Value).toArray}).get? S=some o:=Aa6 _ ho;show wpAny _ A.in1 (Builtin.List.listExtendWith (.ref s.heap.objs.size) (.ref S) (.ref s.heap.objs.size)) _ _ _;unfold Builtin.List.listExtendWith;have N:Shared.TypeIs {s with heap:=s.heap.push {cls:=.type "list",data:=.seq ([]:List Value).toArray}} (.ref S) "set" := by
  obtain⟨o',e1,e2⟩:=hT;exact⟨o',Aa6 _ e1,e2⟩
 refine Aa (wpAny_typeOf N ?_);have h1:Builtin.List.listSameRef (.ref s.heap.objs.size) (.ref S)=false:=by simp[Builtin.List.listSameRef,M]
 have h2:(Value.type "set" == Value.type "list")=false:=by decide
 have h3:(Value.type "set" == Value.type "tuple")=false:=by decide
 simp only[h1,h2,h3,Bool.or_false,Av,if_false];refine Aa (bN1 N ho1 hd T hpl ?_);refine Aa (Bk ?_);unfold Builtin.List.listLengthHint;have R:Shared.TypeIs {s with heap:=(s.heap.push {cls:=.type "list",data:=.seq ([]:List Value).toArray}).push {cls:=.type "set_iterator",data:=.fields #[.int 0 0,.int 0 0,.ref S,.int es.size 0,.int ep 0]}} (.ref S) "set" := by
  obtain⟨o',e1,e2⟩:=N;exact⟨o',Aa6 _ e1,e2⟩
 refine Aa (wpAny_specialOf R F.slot_set_len.lookup ?_);have hsp:splitId "set.__len__" = some ("set", "__len__"):=by kernel_rfl
 dsimp only
 rw[hsp];dsimp only;refine Aa (wpAny_isInstance R sub_set_self ?_);rw[Ac (show ¬(!true)=true by decide)]
 refine wpAny_ite ((Ae (by decide +kernel)).mpr ?_)
 refine Aa (wpAny_typeOf R ?_);dsimp only;refine Ab ?_;show wpAny _ A.in1 (rule "list.extend.makes-room" >>= λ_=>Builtin.List.listTouch (.ref s.heap.objs.size) >>= λ_=>
   again (.builtin "list.extend.loop" ⟨[.ref s.heap.objs.size,.ref (s.heap.push {cls:=.type "list",data:=.seq ([]:List Value).toArray}).objs.size,.ref s.heap.objs.size],[]⟩)) _ _ _
 refine Aa (wpAny_rule ?_);have X:((s.heap.push {cls:=.type "list",data:=.seq ([]:List Value).toArray}).push {cls:=.type "set_iterator",data:=.fields #[.int 0 0,.int 0 0,.ref S,.int es.size 0,.int ep 0]}).get? s.heap.objs.size=some {cls:=.type "list",data:=.seq ([]:List Value).toArray}:=Aa6 _ (Ac3 _ rfl);have J:((s.heap.push {cls:=.type "list",data:=.seq ([]:List Value).toArray}).push {cls:=.type "set_iterator",data:=.fields #[.int 0 0,.int 0 0,.ref S,.int es.size 0,.int ep 0]}).get? (s.heap.push {cls:=.type "list",data:=.seq ([]:List Value).toArray}).objs.size=some {cls:=.type "set_iterator",data:=.fields #[.int 0 0,.int 0 0,.ref S,.int es.size 0,.int ep 0]}:=Ac3 _ rfl;have m:(s.heap.push {cls:=.type "list",data:=.seq ([]:List Value).toArray}).objs.size=s.heap.objs.size+1:=Ce ..;have D:((s.heap.push {cls:=.type "list",data:=.seq ([]:List Value).toArray}).push {cls:=.type "set_iterator",data:=.fields #[.int 0 0,.int 0 0,.ref S,.int es.size 0,.int ep 0]}).get? S=some o:=Aa6 _ ho1;have z:∀b o,s.heap.get? b=some o->((s.heap.push {cls:=.type "list",data:=.seq ([]:List Value).toArray}).push {cls:=.type "set_iterator",data:=.fields #[.int 0 0,.int 0 0,.ref S,.int es.size 0,.int ep 0]}).get? b=some o:=λb o e=>Aa6 _ (Aa6 _ e)
 revert X J D z m
 generalize (s.heap.push {cls:=.type "list",data:=.seq ([]:List Value).toArray}).objs.size=I;generalize ((s.heap.push {cls:=.type "list",data:=.seq ([]:List Value).toArray}).push {cls:=.type "set_iterator",data:=.fields #[.int 0 0,.int 0 0,.ref S,.int es.size 0,.int ep 0]})=hp;intro X J m D z;have hnI:S≠I:=by rw[m];exact Ab9 (Ct hlt)
 have P:s.heap.objs.size≠I:=by rw[m];exact Ab9 (Nat.lt_succ_self _)
 refine Aa ?_;show wpAny _ A.in1 (updateSeq s.heap.objs.size (·.push .none) >>= λ_=>updateSeq s.heap.objs.size (·.pop)) _ _ _
 refine Aa (wpAny_updateSeq X rfl ?_);have hS2:=Bq (Obj.mapSeq (·.push Value.none)) X rfl;refine wpAny_updateSeq hS2 rfl ?_;have hS3:=Bq (Obj.mapSeq (·.pop)) hS2 rfl;have B:∀b o,b≠s.heap.objs.size->hp.get? b=some o->((hp.update s.heap.objs.size (Obj.mapSeq (·.push Value.none))).update s.heap.objs.size (Obj.mapSeq (·.pop))).get? b=some o:=
  λb o hb e=>(Dj _ _ (Ne.symm hb)).trans ((Dj _ _ (Ne.symm hb)).trans e)
 have hslo:aE6 w t 0=0:=by unfold aE6;split <;> rfl
 refine Ab ⟨plainId_quiet F.plain_extend_loop _,codeAny_extend_loopS (cO4 (A:=A.in1) hh I S hnI T hin hpl hled).toS (by rw[Cu];have:=T.mq;lia) _ (by simp only[Aa1,Ac2,or_false,not_or];exact⟨P,M⟩) _ es.size 0 _ _ _ rfl (Ci _)
  ⟨⟨_,B _ _ (Ne.symm P) J,rfl,by rw[hslo];rfl⟩,o,B _ _ (Ne.symm M) D,hd⟩ hS3 (ItemsOf.nil _) λs' U c' hm hS' Y=>?_⟩
 show wpAny _ A (load s.heap.objs.size >>= _) _ _ s'
 refine Aa (wpAny_load hS' ?_);refine Ab ?_;obtain⟨h',g',d',tk',os'⟩:=s';have eg:g'=s.gens:=hm.gens;have ed:d'=s.drawn:=hm.drawn;have eo:os'=s.os:=hm.os;subst eg;subst ed;subst eo;have hz:(aC1 w S ep es).size=es.size:=by rw[<- Array.length_toList,(U9 w S ep es).length_eq,Am]
 have e:U.toList=(aC1 w S ep es).toList.map (·.2):=by
  refine List.ext_getElem? λj=>?_
  rw[Cj,Aa9,Cj];by_cases hj:j<es.size
  .have h1:j<U.size:=by rw[Y.1];exact hj
   obtain⟨e,h2,h3⟩:=Y.2 j _ (Af h1);rw[Af h1,h2,h3];rfl
  .rw[Cb (by rw[Y.1];lia),Cb (by lia)];rfl
 rw[e];refine hQ _ _ (Cq (Ab3 hS')) λb o' he=>hm.heap b o' (by
  have:=Ab3 he
  simp only[Aa1,Ac2,or_false,not_or];exact⟨Ab9 this,by rw[m];exact Ab9 (Ct this)⟩) (B _ _ (Ab9 (Ab3 he)) (z _ _ he))
end
end L2
namespace LV
open PySem PySem.Spec PyProof.Rows L2
end LV
namespace L2
open PySem PySem.Spec PyProof.Rows
theorem IsTupleKey.at_ {prog:Program}{w:World}{h h':Heap}{ks:List Int}{a:Addr}(x:IsTupleKey (intKind prog w) h ks a)(e:∀o,h.get? a=some o->h'.get? a=some o):IsTupleKey (intKind prog w) h' ks a:=by
 obtain⟨o,z,n,ho,r⟩:=x;exact⟨o,z,n,e o ho,r⟩
theorem bM0:∀{as:List Addr} {us:List Value},Vals (as.map V.ref) us->us=as.map Value.ref
 | [],_,r=>by rw[Cs]at r;cases r;rfl
 | a::as,_,r=>by
  rw[Ac7]at r;cases r with
  | cons h t=>
   rw[bM0 t];cases h;rfl
section
variable {prog:Program}{w:World}{A:Around}{E:Ef}{s:Shared}
theorem bN3 (a:Value)
  (h:Q₁ (.ref s.heap.objs.size) {s with heap:=s.heap.push {cls:=.type "set",dict:=none,data:=.set #[] 0 (.fresh 0 0 (!(w.params.followText "set-order")))}}) :
  codeAny (model prog w) A (.call (.builtin "set.__new__") ⟨[.type "set",a],[]⟩) (wants Q₁ E) s:=by
 refine codeAny_of_tree ?_;show wpAny _ A.in1 (do checkBuiltinCall "set.__new__" ⟨[.type "set",a],[]⟩;again (.builtin "set.__new__" ⟨[.type "set",a],[]⟩)) _ _ s;refine Aa (wpAny_of_eq (F.newCall_set_1 a) (Ab ⟨plainId_quiet F.plain_set_new _,codeAny_builtin F.entry_set_new ?_⟩));rw[Around.under_plainId F.plain_set_new _];unfold Builtin.«set.__new__» Builtin.Frozenset.newClass;have e:=sub_set_self;obtain⟨hp,g,d,z,os⟩:=s;dsimp only
 wp_walk
 refine wpAny_askSetting (Ab ?_);dsimp only;simp only[newObj];refine Aa (wpAny_alloc (Ab ?_));exact Ab h
end
theorem SetT.at_ {prog:Program}{w:World}{ky:Addr->List Int}{h h':Heap}{S:Addr}{as:List Addr}(x:SetT prog w ky h S as)(e:∀o,h.get? S=some o->h'.get? S=some o):SetT prog w ky h' S as:=by
 obtain⟨o,s,z,t,ho,r⟩:=x;exact⟨o,s,z,t,e o ho,r⟩
def asN (ky:Addr->List Int)(adr:Nat->Addr):Nat->List Addr
 | 0=>[]
 | i+1=>if ky (adr i)∈(asN ky adr i).map ky then asN ky adr i else adr i::asN ky adr i
theorem cS3 (ky:Addr->List Int)(adr:Nat->Addr)(i:Nat):∀j,i<=j->(asN ky adr i).length<=(asN ky adr j).length
 | 0,h=>by rw[show i=0 by lia];exact Aa7 _
 | j+1,h=>by
  rcases Nat.eq_or_lt_of_le h with rfl | h
  .exact Aa7 _
  .have e:=cS3 ky adr i j (by lia)
   show _<=(if _ then _ else _:List Addr).length
   split
   .exact e
   .rw[Ar];lia
theorem o7:∀{i},b∈asN ky adr i->∃j,j<i/\b=adr j
 | 0,h=>by cases h
 | i+1,h=>by
  have h:b∈(if _ then _ else _:List Addr):=h
  split at h
  .obtain⟨j,h1,e⟩:=o7 h;exact⟨j,by lia,e⟩
  .rcases Aa1.mp h with rfl | h
   .exact⟨i,by lia,rfl⟩
   .obtain⟨j,h1,e⟩:=o7 h;exact⟨j,by lia,e⟩
theorem cD2:∀{i j},j<i->ky (adr j)∈(asN ky adr i).map ky
 | 0,j,h=>absurd h (by lia)
 | i+1,j,h=>by
  show _∈(if _ then _ else _:List Addr).map ky
  rcases Cz j i with z | z
  .have ih:=cD2 (ky:=ky) (adr:=adr) z
   split
   .exact ih
   .exact Ad4 _ ih
  .obtain rfl:j=i:=by lia
   split
   .assumption
   .exact Aj
theorem aN2:∀{i},((asN ky adr i).map ky).Nodup
 | 0=>List.Pairwise.nil
 | i+1=>by
  have ih:=aN2 (ky:=ky) (adr:=adr) (i:=i)
  show((if _ then _ else _:List Addr).map ky).Nodup
  split
  .exact ih
  .rename_i h;rw[Ac7,Aa5];exact⟨h,ih⟩
section
variable {prog:Program}{w:World}{A:Around}{R:Result->Shared->Prop}{I:Addr}{fp wr:List Addr}{G:Array GenState->Array GenState->Prop}{n:Nat}{P:Nat->Value->Prop}{St:Nat->Shared->Prop}
theorem cE9 (W:WalksS prog w A.in1 I fp wr G n P St)(S:Addr)(hSf:S∉fp)(hu:A.in1.units<cLine)
  (ky:Addr->List Int) (adr:Nat->Addr) (hval:∀i v,P i v->v=.ref (adr i)) (hn:(asN ky adr n).length<=16) (hadr:∀i,i<n->adr i∉S::wr) :
  ∀(k i:Nat) (s:Shared),n-i=k->i<=n->St i s->SetT prog w ky s.heap S (asN ky adr i)->(∀i,i<n->IsTupleKey (intKind prog w) s.heap (ky (adr i)) (adr i)) ->
   (∀s',Moved (S::wr) G s s'->SetT prog w ky s'.heap S (asN ky adr n)->R (.ok (.ret .none)) s') ->
   codeAny (model prog w) A (.builtin "set.update.loop" ⟨[.ref S,.ref I],[]⟩) R s:=by
 have hSw:S∉wr:=λh=>hSf (W.sub _ h)
 have Q:∀b∈wr,b∈S::wr:=λb M=>Ad4 _ M
 intro k;induction k with
 | zero=>
  intro i s hk hi hst hS hK hR;have X:i=n:=by lia
  subst X;refine codeAny_builtin F.entry_set_update_loop ?_;rw[Around.under_plainId F.plain_set_update_loop _];show wpAny _ A.in1 (pyNext (.ref I) >>= _) _ _ s;refine Aa (W.done s _ _ hst λs' hm=>?_)
  show wpAny _ A.in1 (ret Value.none) _ _ s'
  exact Ab (hR s' (hm.mono Q) (hS.at_ λo ho=>hm.heap S _ hSw ho))
 | succ k ih=>
  intro i s hk hi hst hS hK hR;have U:i<n:=by lia
  refine codeAny_builtin F.entry_set_update_loop ?_;rw[Around.under_plainId F.plain_set_update_loop _];show wpAny _ A.in1 (pyNext (.ref I) >>= _) _ _ s;refine Aa (W.item i s _ _ U hst λv s' hP B hm=>?_)
  obtain rfl:=hval i v hP;have hS':SetT prog w ky s'.heap S (asN ky adr i):=hS.at_ λo ho=>hm.heap S _ hSw ho
  have Y:∀i,i<n->IsTupleKey (intKind prog w) s'.heap (ky (adr i)) (adr i):=λi hi=>IsTupleKey.at_ (hK i hi) λo ho=>hm.heap _ _ (λz=>hadr i hi (Ad4 _ z)) ho
  have hle:=cS3 ky adr (i+1) n U
  have m:asN ky adr (i+1)=if ky (adr i)∈(asN ky adr i).map ky then asN ky adr i else adr i::asN ky adr i:=rfl
  by_cases X:ky (adr i)∈(asN ky adr i).map ky
  .rw[Ae X]at m;show wpAny _ A.in1 (holding [Value.ref (adr i)] (setAdd S (.ref (adr i))) >>= _) _ _ s';refine Aa (Bk ?_);refine cA0 hu hS' (by rw[m]at hle;lia) (Y i U) (λb M=>?_) (λ_ tk D=>?_) λz=>absurd X z
   .obtain⟨j,hj,rfl⟩:=o7 M;exact Y j (by lia)
   .refine Ab ⟨plainId_quiet F.plain_set_update_loop _,ih (i+1) _ (by lia) U (W.frame _ s' _ _ B D λb M o e=>e) (by rw[m];exact hS') Y λs'' N J=>?_⟩
    exact hR s'' (Moved.trans W.gtrans ((hm.mono Q).then_heap D λb o M e=>e) N) J
  .rw[Ac X]at m;rw[m,Ar]at hle;show wpAny _ A.in1 (holding [Value.ref (adr i)] (setAdd S (.ref (adr i))) >>= _) _ _ s';refine Aa (Bk ?_);refine cA0 hu hS' (by lia) (Y i U) (λb M=>?_) (λz=>absurd z X) λ_ h' tk D hsb hS2=>?_
   .obtain⟨j,hj,rfl⟩:=o7 M;exact Y j (by lia)
   .refine Ab ⟨plainId_quiet F.plain_set_update_loop _,ih (i+1) _ (by lia) U (W.frame _ s' _ _ B D λb M o e=>?_) (by rw[m];exact hS2) (λj hj=>IsTupleKey.at_ (Y j hj) λo ho=>?_) λs'' N J=>?_⟩
    .rw[hsb.2 b (λh:b=S=>hSf (by rw[<- h];exact M))];exact e
    .rw[hsb.2 _ (λh:adr j=S=>hadr j hj (by rw[h];exact Aj))];exact ho
    .refine hR s'' (Moved.trans W.gtrans ((hm.mono Q).then_heap D λb o M e=>?_) N) J
     rw[hsb.2 b (λh:b=S=>M (by rw[h];exact Aj))];exact e
end
section
variable {prog:Program}{w:World}{A:Around}{E:Ef}{s:Shared}
set_option maxHeartbeats 3200000 in
theorem aU2 {ky:Addr->List Int}{l:Addr}{as:List Addr}{Q:Ef}(hu:A.units+64<cLine)
  (hh:A.handled=none) (hl:s.heap.IsList l (as.map Value.ref).toArray) (hlen:(asN ky (λi=>as.getD i 0) as.length).length<=16) (hk:∀i,i<as.length->IsTupleKey (intKind prog w) s.heap (ky (as.getD i 0)) (as.getD i 0))
  (h:∀(h':Heap) (tk:Nat),SetT prog w ky h' s.heap.objs.size (asN ky (λi=>as.getD i 0) as.length) ->
   (∀b o,b<s.heap.objs.size->s.heap.get? b=some o->h'.get? b=some o)->Q (.ref s.heap.objs.size) {s with heap:=h',toks:=tk}) :
  wpAny (model prog w) A (call (.type "set") [.ref l]) Q E s:=by
 obtain⟨c,tl,hmro⟩:=F.called_set.mro;have hmade:=F.called_set.made;have hsub:=F.called_set.sub;refine wpAny_call (codeAny_of_tree ?_);show wpAny _ _ (callAny (.type "set") _) _ _ _;refine Ab ⟨Code.quiet_builtin _ (by decide +kernel),codeAny_builtin F.entry_type_call ?_⟩
 rw[Around.under_plain (weight_type_call_type "set" [.ref l] []) rfl];have h1:=F.called_set.notType;have h2:=F.called_set.canCreate;have hct:=F.typeCall_set_1 (.ref l)
 repeat (any_goals (first | assumption | wp_step))
 refine codeAny_mono (bN3 (.ref l) (E:=E) (Q₁:=λobj s₁=>∃z:Bool,z = !(w.params.followText "set-order")/\obj=.ref s.heap.objs.size/\s₁={s with heap:=s.heap.push {cls:=.type "set",dict:=none,data:=.set #[] 0 (.fresh 0 0 z)}}) ⟨_,rfl,rfl,rfl⟩) λr s₁ hr=>?_
 cases r with
 | error e=>exact hr
 | ok fl=>
  cases fl with
  | ret obj=>
   obtain⟨z,hled,rfl,rfl⟩:=hr;have hS:(s.heap.push {cls:=.type "set",dict:=none,data:=.set #[] 0 (.fresh 0 0 z)}).get? s.heap.objs.size=some {cls:=.type "set",dict:=none,data:=.set #[] 0 (.fresh 0 0 z)}:=Ac3 _ rfl;have hT:Shared.TypeIs {s with heap:=s.heap.push {cls:=.type "set",dict:=none,data:=.set #[] 0 (.fresh 0 0 z)}} (.ref s.heap.objs.size) "set" := ⟨_,hS,rfl⟩
   have hli:=F.called_set.init.lookup
   have hbi:=F.called_set.init.bind (.ref s.heap.objs.size)
   repeat (any_goals (first | assumption | wp_step))
   refine codeAny_mono (codeAny_call_builtin (R:=wants (λr s₂=>r=.none/\∃h' tk,s₂={s with heap:=h',toks:=tk} /\
     SetT prog w ky h' s.heap.objs.size (asN ky (λi=>as.getD i 0) as.length) /\
     (∀b o,b<s.heap.objs.size->s.heap.get? b=some o->h'.get? b=some o)) E) F.called_set.init.plain F.entry_set_init (check_set_init_1 hT ?_)) λr₂ s₂ U=>?_
   .obtain⟨ol,hol,M,nl,N⟩:=hl;obtain⟨ocls,J,odata,X⟩:=ol;simp only at M N;subst M;subst N;have hol':(s.heap.push {cls:=.type "set",dict:=none,data:=.set #[] 0 (.fresh 0 0 z)}).get? l=some {cls:=.type "list",dict:=J,data:=.seq (as.map Value.ref).toArray nl,slots:=X}:=Aa6 _ hol;have hsls:=F.sub_list_set;have hslf:=F.sub_list_frozenset;have hne:(Value.type "list" == Value.type "dict")=false:=by decide
    have P:(s.heap.push {cls:=.type "set",dict:=none,data:=.set #[] 0 (.fresh 0 0 z)}).IsList l (as.map Value.ref).toArray:=⟨_,hol',rfl,nl,rfl⟩
    unfold Builtin.«set.__init__» noKeywords Builtin.Frozenset.updateFrom;generalize hPI:pyIter=PI
    wp_walk
    subst hPI;refine wpAny_pyIter_list P ?_;refine Aa (wpAny_runValue ?_);have hlS:l<s.heap.objs.size:=Ab3 hol;have hh3:A.in1.in1.in1.handled=none:=by simp[hh]
    have hneI:l≠(s.heap.push {cls:=.type "set",dict:=none,data:=.set #[] 0 (.fresh 0 0 z)}).objs.size:=by
     rw[Ce];exact Ab9 (Ct hlS)
    have hSf:s.heap.objs.size∉[(s.heap.push {cls:=.type "set",dict:=none,data:=.set #[] 0 (.fresh 0 0 z)}).objs.size,l]:=by
     rw[Ce];simp only[Aa1,Ad8,Ac2,or_false,not_or];exact⟨Ab9 (Nat.lt_succ_self _),Nat.ne_of_gt hlS⟩
    have Y:(as.map Value.ref).toArray.size=as.length:=by simp
    have hval:∀(i:Nat) (v:Value),(as.map Value.ref).toArray[i]? = some v->v=.ref ((λi=>as.getD i 0) i):=λi v hv=>by
     rw[List.getElem?_toArray,Aa9]at hv;obtain⟨a,ha,rfl⟩:=Ap.mp hv;show Value.ref a=Value.ref (as.getD i 0);rw[Ac0,ha];rfl
    have B:∀i,i<as.length->as.getD i 0<s.heap.objs.size:=λi hi=>by
     obtain⟨o,_,_,ho,_⟩:=hk i hi;exact Ab3 ho
    refine cE9 ((Walks.list hh3 _ l hneI (as.map Value.ref).toArray).toS) s.heap.objs.size
     hSf (by show A.units+1+1+1<cLine;lia) ky (λi=>as.getD i 0) hval (by rw[Y];exact hlen) (λi hi=>?hadr) ((as.map Value.ref).toArray.size-0) 0 _ (by lia) (Ci _)
     ⟨⟨_,Ac3 _ rfl,rfl,rfl⟩,(P.push _)⟩ ?hS0 (λi hi=>?hK0) ?hR
    case hadr=>
     rw[Y]at hi
     have:=B i hi
     rw[Ce];simp only[Aa1,Ad8,Ac2,or_false,not_or];exact⟨Ab9 this,Ab9 (Ct this)⟩
    case hK0=>
     rw[Y]at hi;exact IsTupleKey.at_ (hk i hi) λo ho=>Aa6 _ (Aa6 _ ho)
    case hS0=>
     have D:((s.heap.push {cls:=.type "set",dict:=none,data:=.set #[] 0 (.fresh 0 0 z)}).push {cls:=.type "list_iterator",data:=.fields #[.ref l,.int 0 0]}).get? s.heap.objs.size
       = some {cls:=.type "set",dict:=none,data:=.set #[] 0 (.fresh 0 0 z)}:=Aa6 _ hS
     exact⟨_,#[],0,_,D,(PyProof.Rows.setObjOf_fresh (knd:=intKind prog w) z).1,rfl,⟨rfl,rfl,.inl ⟨rfl,by decide⟩⟩,(λi j hj h=>absurd hj (by show ¬j<0;lia)),rfl,hled,(λe he=>by cases he),(λx hx=>by cases hx),List.Perm.refl _⟩
    case hR=>
     intro s' hm m;obtain⟨h',g',d',tk',os'⟩:=s';have eg:g'=s.gens:=hm.gens;have ed:d'=s.drawn:=hm.drawn;have eo:os'=s.os:=hm.os;subst eg;subst ed;subst eo;show wpAny _ _ _ _ _ _;refine Ab ?_;show wpAny _ _ (ret Value.none) _ _ _;rw[Y]at m;refine Ab ⟨rfl,h',tk',rfl,m,λb o hb e=>?_⟩
     have hb1:b≠s.heap.objs.size:=Ab9 hb
     have hb2:b≠(s.heap.push {cls:=.type "set",dict:=none,data:=.set #[] 0 (.fresh 0 0 z)}).objs.size:=by
      rw[Ce];exact Ab9 (Ct hb)
     exact hm.heap b o (by simp only[Aa1,Ad8,Ac2,or_false,not_or];exact⟨hb1,hb2⟩) (Aa6 _ (Aa6 _ e))
   .cases r₂ with
    | error e=>exact U
    | ok fl₂ =>
     cases fl₂ with
     | ret r=>
      obtain⟨rfl,h',tk,rfl,m,hk'⟩:=U
      repeat (any_goals (first | assumption | wp_step))
      exact h _ _ m hk'
     | _=>exact U.elim
  | _=>exact hr.elim
end
end L2
namespace L2
open PySem PySem.Spec PySem.Calls PyProof.Rows
def bJ6 (P:Program)(w:World)(ky:Addr->List Int)(a:Addr)(as:List Addr):HO:=.ext λh=>SetT P w ky h a as
def dD2 (P:Program)(w:World)(K:Frag):List V->Hp->VK->Prop:=λxs H Q=>∃(p:Addr) (as:List Addr) (l L:List (List Int)),xs=[.ref p]/\SqL K H p (as.map V.ref)/\l.length=as.length/\(∀i,i<as.length->SqT K H (as.getD i 0) ((l.getD i []).map V.int))/\L.length<=16/\(∀x∈l,x∈L) /\
 ∀a ky,H a=none->(∀i,i<as.length->ky (as.getD i 0)=l.getD i [])->Q (.ref a) (upd H a (bJ6 P w ky a (asN ky (λi=>as.getD i 0) as.length)))
def dO4 (P:Program)(w:World)(K:Frag):List V->Hp->VK->Prop:=λxs H Q=>∃(p:Addr) (ky:Addr->List Int) (as:List Addr),xs=[.ref p]/\H p=some (bJ6 P w ky p as)/\(∀b∈as,SqT K H b ((ky b).map V.int)/\ky b≠[])/\2<=as.length/\as.length<64 /\
 ∀a (bs:List Addr),H a=none->bs.Perm as->(bs.map ky).Pairwise LV.E8->Q (.ref a) (upd H a (.lst (bs.map V.ref)))
theorem aR8:∀{u v:List Int},u.map V.int=v.map V.int->u=v
 | [],[],_=>rfl
 | [],_::_,h=>by simp at h
 | _::_,[],h=>by simp at h
 | a::u,b::v,h=>by
  simp only[Ac7,Bd]at h;obtain⟨h1,h2⟩:=h;cases h1;rw[aR8 h2]
theorem cG9 {ky:Addr->List Int}{as:List Addr}{l L:List (List Int)}(Y:l.length=as.length)(s:∀i,i<as.length->ky (as.getD i 0)=l.getD i [])(e:∀x∈l,x∈L):(asN ky (λi=>as.getD i 0) as.length).length<=L.length:=by
 have:=LH.nodup_le (aN2 (ky:=ky) (adr:=λi=>as.getD i 0) (i:=as.length)) (l':=L) λx m=>by
  obtain⟨b,w,rfl⟩:=Aa8.mp m;obtain⟨j,z,rfl⟩:=o7 w;show ky (as.getD j 0)∈L;rw[s j z];refine e _ ?_;rw[Ac0,Aa2 (by lia)]
  exact Cr _
 rw[Aa3]at this;exact this
def cJ1:Value->Addr
 | .ref a=>a
 | _=>0
section
variable {X:Cx}
theorem cE6 (K:Frag)(hr:Room k X.A)(P:X.calm=true)(h:X.K=K:=by rfl):P6 X (.type "set") (dD2 X.prog X.w K):=by
 subst h;intro aA s σ H xs us Q I r ⟨p,m,l,L,e,hq,hl,U,J,B,q⟩;subst e;obtain⟨u,rfl,rx⟩:=T1 r;cases rx;obtain⟨its,rv,D,_⟩:=I.list hq;rw[bM0 rv]at D
 classical
 obtain⟨ky,Y⟩:∃ky:Addr->List Int,∀i,i<m.length->ky (m.getD i 0)=l.getD i []:=by
  refine⟨λb=>if z:∃i,i<m.length/\m.getD i 0=b then l.getD (Classical.choose z) [] else [],λi hi=>?_⟩
  have z:∃j,j<m.length/\m.getD j 0=m.getD i 0:=⟨i,hi,rfl⟩
  show(if z:∃j,j<m.length/\m.getD j 0=m.getD i 0 then l.getD (Classical.choose z) [] else [])=_
  rw[dif_pos z];obtain⟨h1,M⟩:=Classical.choose_spec z;have N:=U _ h1;rw[M]at N;exact aR8 (I.tuple_inj N (U i hi))
 refine aU2 (ky:=ky) hr.units (I.ok.hd P) D.isList (Bi (cG9 hl Y B) J) (λi hi=>by rw[Y i hi];exact aB9 I (U i hi)) λF tk R U=>?_
 refine⟨.ref _,_,I.laid (λb o e=>U b o (Ab3 e) e) (Aa7 _) (show ObjOk X.prog X.w _ F _ (bJ6 _ _ ky _ _) from ?_),rfl,q _ ky (I.hok.fresh (Aa7 _)) Y⟩
 refine⟨R,?_,λh1 M x y=>x.at_ y⟩
 obtain⟨o,es,ep,t,h1,_⟩:=R;exact⟨o,h1⟩
theorem bJ5 {K:Frag}{H:Hp}{ky:Addr->List Int}:∀{as:List Addr},(∀b∈as,SqT K H b ((ky b).map V.int)/\ky b≠[])->LV.TupsV K H (as.map V.ref) (as.map ky)
 | [],_=>trivial
 | a::as,h=>⟨⟨a,rfl,(h a (by simp)).1,(h a (by simp)).2⟩,bJ5 λb e=>h b (by simp[e])⟩
theorem aB5:∀as:List Addr,Vals (as.map V.ref) (as.map Value.ref)
 | []=>.nil
 | a::as=>.cons rfl (aB5 as)
theorem bQ2 (K:Frag)(hc:X.calm=true)(h:X.K=K:=by rfl):P6 X (.builtin "sorted") (dO4 X.prog X.w K):=by
 subst h;intro aA s σ H xs us Q I r ⟨p,M,U,e,hq,hk,h2,h64,q⟩;subst e;obtain⟨u,rfl,rx⟩:=T1 r;cases rx;obtain⟨o,es,ep,t,ho,hex,hd,T,J,hpl,hld,hel,hfn,hp⟩:SetT X.prog X.w M s.heap p U:=(show ObjOk X.prog X.w H s.heap p (bJ6 X.prog X.w M p U) from I.hok p _ hq).1
 have op:((aC1 X.w p ep es).toList.map (·.2)).Perm (U.map Value.ref):=((U9 X.w p ep es).map _).trans hp
 obtain⟨vs,B⟩:∃vs,vs=(aC1 X.w p ep es).toList.map (·.2):=⟨_,rfl⟩;rw[<- B]at op;have F:(vs.map cJ1).map Value.ref=vs:=by
  rw[Ae2]
  conv=>rhs;rw[<- List.map_id vs]
  refine Az λv hv=>?_
  obtain⟨b,_,rfl⟩:=Aa8.mp (op.mem_iff.mp hv);rfl
 have Y:(vs.map cJ1).Perm U:=by
  have:=op.map cJ1
  rw[Ae2]at this;have e:U.map (cJ1 ∘ Value.ref)=U:=by
   conv=>rhs;rw[<- List.map_id U]
   rfl
  rw[e]at this;exact this
 generalize vs.map cJ1=bs at F Y;have hlen:bs.length=U.length:=Y.length_eq;have hk':∀b∈bs,SqT X.K H b ((M b).map V.int)/\M b≠[]:=λb hb=>hk b (Y.mem_iff.mp hb)
 obtain⟨m,hm,_⟩:=I.loc;obtain⟨ta,tl⟩:=LV.aP7 I (bJ5 hk') (aB5 bs);have hc':∀(Q':List Value->Shared->Prop) (E':Ef),(∀R P,s.heap.objs.size<=R.objs.size->(∀b o,s.heap.get? b=some o->R.get? b=some o)->Q' (bs.map Value.ref) {s with heap:=R,toks:=P})->wpAny (model X.prog X.w) X.A.in1 (collect (.ref p)) Q' E' s:=λQ' E' hq'=>
  aN9 (by have:=I.ok.hd hc;simp[this]) ⟨o,ho,hex.1⟩ ho hd T J hpl hld λR P a b=>by
   rw[<- B,<- F];exact hq' R P a b
 refine LV.aJ6 hc' hm ta tl (by rw[Aa3];lia) (by rw[Aa3];lia) λR P D N c hL' kp hD el hp hs=>?_
 rw[Aa3]at hp;have J:∀i∈N,i<(bs.map V.ref).length:=λi hi=>by have:=Ab5.mp (hp.mem_iff.mp hi);rw[Aa3];lia
 have rv':=LV.aB7 (aB5 bs) J
 obtain⟨HD,I'⟩:=LV.aD9 I hm hL' kp hD el rv' (by rw[Aa3,hp.length_eq,Bs,Cu];lia)
 have ge:∀{α:Type} (f:Addr->α) (z:α) (i:Nat),i∈N->(bs.map f).getD i z=f (bs.getD i 0):=λf z i hi=>by
  have:=Ab5.mp (hp.mem_iff.mp hi)
  rw[Ac0,Ac0,Aa9,Aa2 this];rfl
 have e1:(N.map λi=>(bs.map V.ref).getD i .non)=(N.map λi=>bs.getD i 0).map V.ref:=by
  rw[Ae2];exact Az λi hi=>ge V.ref _ i hi
 have e2:(N.map λi=>(bs.map M).getD i [])=(N.map λi=>bs.getD i 0).map M:=by
  rw[Ae2];exact Az λi hi=>ge M _ i hi
 rw[e2]at hs;have hpp:(N.map λi=>bs.getD i 0).Perm bs:=by
  have h4:=hp.map λi=>bs.getD i 0
  have h5:(List.range bs.length).map (λi=>bs.getD i 0)=bs:=by
   refine List.ext_getElem? λj=>?_
   rw[Aa9];by_cases hj:j<bs.length
   .rw[List.getElem?_range hj];simp[hj]
   .rw[Ad6 (by simp;lia),Ad6 (by lia)];rfl
  rw[h5]at h4;exact h4
 refine⟨.ref D,_,I'.tok P,rfl,?_⟩;rw[e1];exact q D _ HD (hpp.trans Y) hs
end
end L2
namespace LV
open PySem L2 PyProof.Rows
section
variable {K:Frag}{ρ:List Sl}{P:Program}{w:World}
theorem bV2:∀{l:List (List Int)} {xs:List V},Reps K H xs (l.map tI)->∃as:List Addr,xs=as.map V.ref/\l.length=as.length/\∀i,i<as.length->SqT K H (as.getD i 0) ((l.getD i []).map V.int)
 | [],_,r=>by cases r;exact⟨[],rfl,rfl,λi hi=>absurd hi (by simp)⟩
 | t::l,_,r=>by
  cases r with
  | cons a b=>
   obtain⟨as,rfl,h2,h3⟩:=bV2 b;cases a with
   | @tup p _ _ s r=>
    rw[r.ints]at s;refine⟨p::as,rfl,by simp[h2],λi hi=>?_⟩
    cases i with
    | zero=>exact s
    | succ i=>exact h3 i (by simpa using hi)
theorem aW3:∀{as:List Addr},(∀b∈as,SqT K H b ((ky b).map V.int))->Reps K H (as.map V.ref) ((as.map ky).map tI)
 | [],_=>.nil
 | a::as,h=>.cons (.tup (h a (by simp)) (M0 _)) (aW3 λb hb=>h b (by simp[hb]))
end
end LV
namespace LV
open PySem PySem.Spec PySem.Calls PySem.W PyProof.Rows L2 Att
section
variable {prog:Program}{w:World}{A:Around}{E:Ef}{s:Shared}
theorem aY9 (N:∀(Q':List Value->Shared->Prop) (E':Ef),(∀h' tk,s.heap.objs.size<=h'.objs.size->(∀b o,s.heap.get? b=some o->h'.get? b=some o)->Q' vs {s with heap:=h',toks:=tk})->wpAny (model prog w) A.in1 (collect (.ref l)) Q' E' s)(M:vs.length<2)
  (h:∀h' tk D c,s.heap.objs.size<=D->(∀b o,s.heap.get? b=some o->h'.get? b=some o)->h'.get? D=some (seqObj "list" vs.toArray c)->Q (.ref D) {s with heap:=h',toks:=tk}):wpAny (model prog w) A (call (.builtin "sorted") [.ref l]) Q E s:=by
 refine Calls.call_function_entry kind_sorted plain_sorted entry_sorted (args_sorted1 _) ?_;unfold Builtin.«sorted»;refine Aa (m:=checkCount "sorted" 1 1 _) (Ab ?_);refine Aa (N _ _ λg tk X J=>?_)
 refine Aa (wpAny_newList ?_ (by rw[Cu];lia))
 have Y:(g.push (seqObj "list" vs.toArray 0)).get? g.objs.size=some (seqObj "list" vs.toArray 0):=Ac3 _ rfl
 refine Aa (Bk (Bf slot_list_sort ⟨_,Y,rfl⟩ entry_list_sort (p8 (s:={s with heap:=g.push (seqObj "list" vs.toArray 0),toks:=tk}) Y M ⟨_,rfl,?_⟩) (args_list_sort _)))
 refine Ab ⟨_,rfl,?_⟩;obtain⟨e,he⟩:=sortedHeap_at (out:=vs.toArray) Y;refine h _ tk _ e X (λb o U=>?_) he
 have z:b<g.objs.size:=Ab3 (J b o U)
 rw[sortedHeap_old (Ab9 z) (by rw[size_push'];exact Ct z),Heap.get?_push_ne _ _ _ (Ab9 z)]
 exact J b o U
end
end LV
namespace L2
open PySem PySem.Spec PySem.Calls PyProof.Rows
def cJ8 (P:Program)(w:World)(K:Frag):List V->Hp->VK->Prop:=λxs H Q=>∃(p:Addr) (ky:Addr->List Int) (as:List Addr),xs=[.ref p]/\H p=some (bJ6 P w ky p as)/\(∀b∈as,SqT K H b ((ky b).map V.int)/\ky b≠[])/\as.length<64 /\
 ∀a (bs:List Addr),H a=none->bs.Perm as->(bs.map ky).Pairwise LV.E8->Q (.ref a) (upd H a (.lst (bs.map V.ref)))
theorem bQ7 (K:Frag)(hc:X.calm=true)(h:X.K=K:=by rfl):P6 X (.builtin "sorted") (cJ8 X.prog X.w K):=by
 subst h;intro aA s σ H xs us Q I r ⟨p,ky,z,e,hq,hk,F,q⟩;by_cases m:2<=z.length
 .exact bQ2 X.K hc rfl aA s σ H xs us Q I r ⟨p,ky,z,e,hq,hk,m,F,q⟩
 subst e;obtain⟨u,rfl,rx⟩:=T1 r;cases rx;obtain⟨o,R,N,t,ho,P,hd,T,hin,hpl,hld,hel,hfn,hp⟩:SetT X.prog X.w ky s.heap p z:=(show ObjOk X.prog X.w H s.heap p (bJ6 X.prog X.w ky p z) from I.hok p _ hq).1
 have U:((aC1 X.w p N R).toList.map (·.2)).Perm (z.map Value.ref):=((U9 X.w p N R).map _).trans hp
 have ov:(aC1 X.w p N R).toList.map (·.2)=z.map Value.ref:=by
  match z,m,U with
  | [],_,U=>exact List.Perm.eq_nil U
  | [a],_,U=>exact List.perm_singleton.mp U
  | _::_::_,m,_=>simp at m
 have B:∀(M:List Value->Shared->Prop) (E':Ef),(∀Y J,s.heap.objs.size<=Y.objs.size->(∀b o,s.heap.get? b=some o->Y.get? b=some o)->M (z.map Value.ref) {s with heap:=Y,toks:=J})->wpAny (model X.prog X.w) X.A.in1 (collect (.ref p)) M E' s:=λM E' hq'=>
  aN9 (by have:=I.ok.hd hc;simp[this]) ⟨o,ho,P.1⟩ ho hd T hin hpl hld λY J a b=>by
   rw[ov];exact hq' Y J a b
 refine LV.aY9 B (by rw[Aa3];lia) λY J D c hD kp el=>?_
 have hz:(z.map V.ref).length<=sizeLine:=by rw[Aa3,Cu];lia
 exact⟨.ref D,_,I.laid (t':=J) kp hD (show ObjOk X.prog X.w _ _ _ (.lst (z.map V.ref)) from⟨hz,_,c,aB5 z,el⟩),rfl,q D z (I.hok.fresh hD) (.refl _) (by
  match z,m with
  | [],_=>simp
  | [a],_=>simp
  | _::_::_,m=>simp at m)⟩
end L2
namespace LV
open PySem L2 PyProof.Rows
section
variable {K:Frag}{ρ:List Sl}{P:Program}{w:World}
theorem cI0 {te:TE}{l ss:List (List Int)}(he:EF K te ρ (l.map tI))(hne:∀x∈l,x≠[])(h16:ss.length<=16)(hs:ss.Pairwise E8)(hnd:ss.Nodup)(hm:∀x,x∈ss↔x∈l) :
  EF K (tCB (cJ8 P w K) (G1 (tCB (dD2 P w K) (G1 te V7)) V7)) ρ (ss.map tI):=λS B σ H o I Q q=>
 he S B σ H o I _ λp xs H1 s1 hp e r=>by
  obtain⟨s,rfl,hl,hk⟩:=bV2 (r.mono H9);refine⟨p,s,l,ss,rfl,SqL.of e,hl,hk,h16,λx N=>(hm x).mpr N,λa ky ha Y=>?_⟩
  have R:∀i,i<s.length->ky (s.getD i 0)∈l:=λi hi=>by
   rw[Y i hi,Ac0,Aa2 (by lia)]
   exact Cr _
  have m:((asN ky (λi=>s.getD i 0) s.length).map ky).Perm ss:=by
   refine(List.perm_ext_iff_of_nodup aN2 hnd).mpr λx=>⟨λN=>?_,λN=>?_⟩
   .obtain⟨b,X,rfl⟩:=Aa8.mp N;obtain⟨j,U,rfl⟩:=o7 X;exact(hm _).mpr (R j U)
   .obtain⟨i,hi,rfl⟩:=List.getElem_of_mem ((hm x).mp N)
    have:=cD2 (ky:=ky) (adr:=λi=>s.getD i 0) (i:=s.length) (j:=i) (by lia)
    rw[show ky (s.getD i 0)=l[i] by rw[Y i (by lia),Ac0,Aa2 hi];rfl]at this
    exact this
  have hlen:(asN ky (λi=>s.getD i 0) s.length).length=ss.length:=by rw[<- m.length_eq,Aa3]
  have g:=D1 (o:=bJ6 P w ky a (asN ky (λi=>s.getD i 0) s.length)) ha
  have M:∀b∈asN ky (λi=>s.getD i 0) s.length,SqT K (upd H1 a (bJ6 P w ky a (asN ky (λi=>s.getD i 0) s.length))) b ((ky b).map V.int)/\ky b≠[]:=λb X=>by
   obtain⟨j,U,rfl⟩:=o7 X;refine⟨?_,hne _ (R j U)⟩;show SqT K _ (s.getD j 0) ((ky (s.getD j 0)).map V.int);rw[Y j U];exact D3 g (hk j U)
  refine⟨a,ky,_,rfl,B3,M,by lia,λD bs hD J hs1=>?_⟩
  have e1:bs.map ky=ss:=List.Perm.eq_of_pairwise (le:=E8) (λa b _ _ h1 h2=>u6 a b h1 h2) hs1 hs ((J.map _).trans m)
  have s3:=D1 (o:=.lst (bs.map V.ref)) hD
  have F:=L2.Same.tr s1 (L2.Same.tr g s3)
  refine q D _ _ F (O4 s1 (O4 g hD)) B3 ?_;rw[<- e1];refine aJ5 (λa xs' q'=>W7 (λb z=>?_) q') _ (e7 l8 _) (aW3 λb X=>D3 s3 (M b (J.mem_iff.mp X)).1)
  rcases z with z | z
  .exact(I.grow F).lists b z
  .exact⟨.l _,by rw[z];exact B3⟩
end
end LV
namespace TT
section
variable {n:Nat}{r:Nat->List Nat}{u v:Nat->Nat->Bool}{H:Nat->Nat->Int}
theorem Po.hits (G:Good n r)(h:Po r u v H):∀p q,q∈r p->∀j:Int,0<=j->j<=H p q->∃p' q',q'∈r p'/\H p' q'=j:=by
 have w:2∈r 0:=(C7 G.outs.1).1
 refine aR5 G (P:=λp q=>∀j:Int,0<=j->j<=H p q->∃p' q',q'∈r p'/\H p' q'=j) (λq x y X e=>?_) (λp q Y e j m U=>?_) w (λj m U=>⟨0,2,w,by have:=h.z;lia⟩)
 .rw[<- h.fa q x y X];exact e
 .have s:=h.st p q Y
  by_cases c:j<=H p q
  .exact e j m c
  .refine⟨q,p,G.sym Y,?_⟩;have : -1<=rsn u v p q:=by unfold rsn;split <;> split <;> lia
   lia
end
end TT
set_option maxHeartbeats 1000000
namespace K34
open PySem L2 LV PyProof.Rows
theorem L8:C1 ["_law_drawing", "_law_arrows_here", "_law_lift", "_law_some", "_law_ring", "_law_there", "_law_further"] ["_law_drawing", "_law_arrows_here", "_law_lift"] (B2 aE0):={}
theorem aZ4:C1 ["_law_found"] ["_law_found"] (B2 k7):={}
theorem sc__law_heights_right:C1 ["_law_drawing", "_law_one", "_law_other", "_law_found", "_law_left", "_law_inner", "_law_known", "_law_land", "_law_number", "_law_way"] ["_law_drawing", "_law_one", "_law_other", "_law_found"] (B2 N1):={}
theorem ndW:(["_law_way", "_law_left"]:List Str).Nodup:=by decide +kernel
def cC6 (K:Frag):Sp:=λvs H Q _=>∃(a:Addr) (ns:List Int),vs=[.ref a]/\SqL K H a (ns.map V.int)/\ns.length<=63/\∀H',Q (.bl true) H'
def bQ8 (xs:List Int)(lo hi:Option Int):List Int:=List.take (HT.sIx xs.length xs.length hi-HT.sIx xs.length 0 lo) (List.drop (HT.sIx xs.length 0 lo) xs)
theorem dE9 (xs:List Int)(lo hi:Option Int):LV.aN6 (xs.map PyData.int) lo hi=(bQ8 xs lo hi).map PyData.int:=by
 unfold LV.aN6 bQ8;rw[Aa3,List.map_take,List.map_drop]
theorem bX6 (xs:List Int)(lo hi:Option Int):(bQ8 xs lo hi).length<=xs.length:=by
 unfold bQ8;rw[Ad1,Cg];lia
def fWh (_:PyData):Option PyData:=some (.bool true)
theorem cA1:∀l:List Int,(l.map PyData.int).filterMap fWh=(l.map λ_=>true).map PyData.bool
 | []=>rfl
 | a::l=>by rw[Ac7,Ao];show PyData.bool true::_=_;rw[cA1 l];rfl
theorem dR0 (l:List Int)(k:Int):(l.map PyData.int).any (λz=>PyData.eqv z (.int k))=decide (k∈l):=by
 induction l with
 | nil=>rfl
 | cons x l w=>
  rw[Ac7,List.any_cons,w];have e:PyData.eqv (.int x) (.int k)=decide (x=k):=rfl;rw[e,Dh];simp only[Ee,Ay,Aa1];exact⟨λh=>h.imp Eq.symm id,λh=>h.imp Eq.symm id⟩
theorem bV1 (f g:α->Int):∀l:List α,(l.map λx=>f x+g x).sum=(l.map f).sum+(l.map g).sum
 | []=>rfl
 | a::l=>by simp only[Ac7,List.sum_cons,bV1 f g l];lia
theorem cO8 {α:Type}{f:α->Int}{c:Int}:∀l:List α,(∀x∈l,f x<=c)->(l.map f).sum<=c*l.length
 | [],_=>by simp
 | a::l,h=>by
  have h1:=cO8 l λx e=>h x (Ad4 _ e)
  have w:=h a Aj
  simp only[Ac7,List.sum_cons,Ar];rw[show((l.length+1:Nat):Int)=(l.length:Int)+1 by lia,Int.mul_add]
  lia
theorem cJ9 {α:Type}{f:α->Int}:∀l:List α,(∀x∈l,0<=f x)->0<=(l.map f).sum
 | [],_=>by simp
 | a::l,h=>by
  have h1:=cJ9 l λx e=>h x (Ad4 _ e)
  have w:=h a Aj
  simp only[Ac7,List.sum_cons];lia
theorem bW0 {α:Type}{f:α->Int}:∀l:List α,(∀x∈l,0<=f x)->(∃x∈l,1<=f x)->1<=(l.map f).sum
 | [],_,⟨x,hx,_⟩=>by cases hx
 | a::l,h,⟨x,hx,h1⟩=>by
  have w:=h a Aj
  have e:∀x∈l,0<=f x:=λx hx=>h x (Ad4 _ hx)
  simp only[Ac7,List.sum_cons];rcases Aa1.mp hx with rfl | hx
  .have:=cJ9 l e;lia
  .have:=bW0 l e ⟨x,hx,h1⟩;lia
theorem cO2 (H:Nat->Nat->Int)(t:List Int):hI (λp q => - H p q) t = - hI H t:=by
 unfold hI;split <;> simp
theorem cS9 (H H':Nat->Nat->Int)(t:List Int):hI (λp q=>H p q+H' p q) t=hI H t+hI H' t:=by
 unfold hI;split <;> simp
theorem cV8 (t:List Int):hI (λ_ _=>0) t=0:=by
 unfold hI;split <;> rfl
theorem dC3 (w:Dw m dr tr)(Y:TT.Po (TT.trn dr) u v H)(R:t∈B8 m dr):hI H t<=15:=by
 obtain⟨p,q,N,_,e⟩:=bG1 w Y R;rw[e];rcases Int.lt_or_le (H p q) 16 with c | c
 .lia
 exfalso
 have X:2∈TT.trn dr 0:=(TT.C7 w.good.outs.1).1
 have D:((List.range 16).map λj:Nat=>(j:Int)+1).Nodup:=by
  rw[Ac6,Ae0];exact(Ac6.mp Dl).imp λh e=>h (by lia)
 have:=bW3 D (m:=(B8 m dr).map (hI H)) λx Q=>by
  obtain⟨j,U,rfl⟩:=Aa8.mp Q;have U:=Ab5.mp U;obtain⟨J,M,s,e'⟩:=Y.hits w.good p q N ((j:Int)+1) (by lia) (by lia)
  have ho:TT.lnd (TT.trn dr) J M≠[0,2,1]:=λz=>by
   have:=Y.lnd w.good s X (by rw[z,aX0 w])
   have P:=Y.z
   lia
  exact Aa8.mpr ⟨_,(u7 w).mpr ⟨J,M,s,rfl,ho⟩,by
   have:=Y7 w Y s
   unfold hN at this;rw[this,e']⟩
 rw[Aa3,Aa3,Bs]at this;have F:=aJ2 w;have B:=w.m7
 lia
def sm (k:Int)(m:Nat)(dr:List (List Nat))(H:Nat->Nat->Int):Int:=((B8 m dr).map λt=>k*hI H t).sum
theorem dP4 {m:Nat}{dr tr:List (List Nat)}{u v:Nat->Nat->Bool}{H:Nat->Nat->Int}{k:Int}(e:Dw m dr tr)(z:TT.Po (TT.trn dr) u v H)(s:k=1\/k = -1):sm k m dr H<=225:=by
 have h1:=cO8 (f:=λt=>k*hI H t) (c:=15) (B8 m dr) λt w=>by
  rcases s with rfl | rfl
  .have:=dC3 e z w;lia
  .have:=dC3 e z.symm w
   rw[cO2]at this;lia
 have Y:=aJ2 e
 have X:=e.m7
 unfold sm
 lia
theorem dI6 (k:Int)(m:Nat)(e:List (List Nat))(H H':Nat->Nat->Int):sm k m e (λp q=>H p q+H' p q)=sm k m e H+sm k m e H':=by
 unfold sm;rw[<- bV1]
 congr 1
 refine Az λt _=>?_
 rw[cS9,Int.mul_add]
theorem dI7 {m:Nat}{dr tr:List (List Nat)}{u v:Nat->Nat->Bool}{H:Nat->Nat->Int}{k e:Int}(X:Dw m dr tr)(J:TT.Po (TT.trn dr) u v H)(U:k=1\/k = -1)(he:e=1\/e = -1)(w:∀p q,H p q=0\/H p q=e)(h:k∈(B8 m dr).map (hI H)):1<=sm k m dr H:=by
 obtain⟨F,s,M⟩:=Aa8.mp h;obtain⟨Q,D,_,_,B⟩:=bG1 X J s;have Y:k=e:=by have:=w Q D;lia
 subst Y;refine bW0 _ (λt R=>?_) ⟨F,s,?_⟩
 .obtain⟨p,q,_,_,N⟩:=bG1 X J R;rw[N];rcases w p q with z | z <;> rw[z] <;> rcases U with rfl | rfl <;> decide
 .rw[M];rcases U with rfl | rfl <;> decide
def cO0 (ds:List PyData)(post:PyData->Prop):Prop:=∃(m:Nat) (dr tr:List (List Nat)) (one:List (Int×Int)) (k:Int),Dw m dr tr/\AI dr one/\sp one=one/\(k=1\/k = -1)/\ds=[.tuple (dr.map tN),.tuple (one.map pD),.int k]/\post=λd=>∃ps,d=.tuple (ps.map pD)/\Mv dr one ps
def bZ6 (ds:List PyData)(d:PyData):Prop:=∃(m:Nat) (dr tr:List (List Nat)) (one other:List (Int×Int)) (H:Nat->Nat->Int),Dw m dr tr/\TT.Po (TT.trn dr) (uA one) (uA other) H/\ds=[.tuple (dr.map tN),.tuple (one.map pD),.tuple (other.map pD),tI ((B8 m dr).map (hI H))]/\d=.bool true
def fLd (dr:List (List Nat)):PyData->Option PyData
 | .tuple [.int p,.int q]=>if cL (TT.lnd (TT.trn dr) p.toNat q.toNat)=[0,2,1] then none else some (tI (cL (TT.lnd (TT.trn dr) p.toNat q.toNat)))
 | _=>none
theorem dD5:∀{kvs:List (List Int×PyData)},(∀x∈kvs,∃p q:Nat,q∈TT.trn dr p/\x=([(p:Int),(q:Int)],tI (cL (TT.lnd (TT.trn dr) p q))))->∃l:List (List Int),(kvs.filterMap λy=>fLd dr (.tuple (y.1.map PyData.int)))=l.map tI/\∀t,t∈l↔∃p q:Nat,([(p:Int),(q:Int)],tI (cL (TT.lnd (TT.trn dr) p q)))∈kvs/\t=cL (TT.lnd (TT.trn dr) p q)/\t≠[0,2,1]
 | [],_=>⟨[],rfl,λt=>⟨(λh=>by cases h),(λ⟨_,_,h,_⟩=>by cases h)⟩⟩
 | x::kvs,h=>by
  obtain⟨l,h1,h2⟩:=dD5 (kvs:=kvs) λy M=>h y (Ad4 _ M)
  obtain⟨p,q,N,rfl⟩:=h x Aj;have J:fLd dr (.tuple (([(p:Int),(q:Int)]:List Int).map PyData.int))=if cL (TT.lnd (TT.trn dr) p q)=[0,2,1] then none else some (tI (cL (TT.lnd (TT.trn dr) p q))):=rfl;by_cases c:cL (TT.lnd (TT.trn dr) p q)=[0,2,1]
  .rw[Ae c]at J;refine⟨l,by rw[Ao];simp only[J];exact h1,λt=>(h2 t).trans ⟨?_,?_⟩⟩
   .rintro⟨s,m,w,e⟩;exact⟨s,m,Ad4 _ w,e⟩
   .rintro⟨s,m,w,Y,U⟩;rcases Aa1.mp w with z | z
    .have X:=(Prod.mk.inj z).1
     simp only[Bd,Int.natCast_inj,and_true]at X;obtain⟨rfl,rfl⟩:=X;exact absurd (Y.trans c) U
    .exact⟨s,m,z,Y,U⟩
  .rw[Ac c]at J;refine⟨cL (TT.lnd (TT.trn dr) p q)::l,by rw[Ao];simp only[J];rw[h1];rfl,λt=>⟨λht=>?_,?_⟩⟩
   .rcases Aa1.mp ht with rfl | ht
    .exact⟨p,q,Aj,rfl,c⟩
    .obtain⟨s,m,w,e⟩:=(h2 t).mp ht;exact⟨s,m,Ad4 _ w,e⟩
   .rintro⟨s,m,w,Y,U⟩;rcases Aa1.mp w with z | z
    .have X:=(Prod.mk.inj z).1
     simp only[Bd,Int.natCast_inj,and_true]at X;obtain⟨rfl,rfl⟩:=X;rw[Y];exact Aj
    .exact Ad4 _ ((h2 t).mpr ⟨s,m,z,Y,U⟩)
theorem cL_021:cL l=[0,2,1]↔l=[0,2,1]:=⟨λh=>aD6 (h.trans (show([0,2,1]:List Int)=cL [0,2,1] from rfl)),λh=>by rw[h];rfl⟩
theorem Lq.inn (M:Dw m dr tr)(Y:Lq m dr kvs):∃l:List (List Int),(kvs.filterMap λy=>fLd dr (.tuple (y.1.map PyData.int)))=l.map tI/\∀t,t∈B8 m dr↔t∈l:=by
 obtain⟨l,h1,N⟩:=dD5 Y.ok.el;refine⟨l,h1,λt=>?_⟩
 rw[N,u7 M];constructor
 .rintro⟨p,q,s,rfl,ho⟩;refine⟨p,q,?_,rfl,λz=>ho (cL_021.mp z)⟩
  have X:=Y.at_ p q s
  unfold atD at X;obtain⟨w,U,R⟩:=Ap.mp X;have Q:=List.find?_some U;have D:=List.mem_of_find?_eq_some U;rw[<- R,<- show w.1=[(p:Int),(q:Int)] from Ax Q]
  exact D
 .rintro⟨p,q,F,rfl,ho⟩;obtain⟨B,P,s,e⟩:=Y.ok.el _ F;have J:=(Prod.mk.inj e).1;simp only[Bd,Int.natCast_inj,and_true]at J;obtain⟨rfl,rfl⟩:=J;exact⟨p,q,s,rfl,λz=>ho (cL_021.mpr z)⟩
def kvI (H:Nat->Nat->Int)(L:List (List Int)):List (List Int×PyData):=L.map λt=>(t,PyData.int (hI H t))
theorem cY5 (h:t∉L):T0 (kvI H L) t (.int (hI H t))=kvI H (L++[t]):=by
 unfold T0 kvI;rw[Ac,Ad2];rfl;intro z;obtain⟨x,w,e⟩:=List.any_eq_true.mp z;obtain⟨y,s,rfl⟩:=Aa8.mp w;exact h (by rw[<- show y=t from Ax e];exact s)
theorem cS1 (H:Nat->Nat->Int)(L:List (List Int)):(kvI H L).all (λx=>aK8 x.2)=true:=by
 rw[Ac9];intro x e;obtain⟨y,_,rfl⟩:=Aa8.mp e;rfl
theorem cM9:∀{L:List (List Int)},t∈L->atD (kvI H L) t=some (.int (hI H t))
 | [],h=>by cases h
 | x::L,h=>by
  unfold atD kvI;rw[Ac7,By];by_cases c:x=t
  .subst c;simp
  .rw[Aq c];exact cM9 ((Aa1.mp h).resolve_left λz=>c z.symm)
section
variable {P:Program}{w:World}{K:Frag}{mg:Str->Option Value}{base:Heap}{a:Ad}
theorem cQ9 (T:Tx K mg a):D2 P w K mg base CX0 1 a.aI8 a.aI0 ["_law_found"] (spV K bK0):=by
 refine T.aH0.F.ok aZ4 (X3 (by rintro ds d ⟨_,e,_⟩;rw[e];rfl)) (λm A z s H vs Q E hr h=>?_)
 obtain⟨ds,S,d,Y,r,⟨i,rfl,rfl⟩,q⟩:=h;refine⟨_,(A8 (D0 (cN2 (C0 (dO1 K) (by rfl) T.Q6 boot_isinstance (A0 (pv 0) (A0 (cK5 rfl T.aY1 boot_int) A2))) (cV1 (dJ1 (C0 (dO1 K) (by rfl) T.Q6 boot_isinstance (A0 (pv 0) (A0 (cK5 rfl T.bS9 boot_bool) A2)))))))),K8 Y r ?_ q⟩
 exact L6 (dE3 (cK1 (T := "int") (d:=.int i) v0) λh=>(dT6 (cK1 (T := "bool") (d:=.int i) v0))) rfl
theorem dO8 (T:Tx K mg a):D2 P w K mg base CX0 4 a.aW5 a.aV5 ["_law_drawing", "_law_arrows_here", "_law_lift"] (spX K cO0):=by
 have Y:D2 P w K mg base CX0 1 _ _ _ _:=dE1 T
 have U:D2 P w K mg base CX0 1 _ _ _ _:=dC8 T
 have J:D2 P w K mg base CX0 3 _ _ _ _:=dS1 T
 refine T.aD8.F.ok L8 (dL6 λds d ⟨_,_,_,_,_,_,_,_,_,e,_⟩=>by rw[e];rfl) (λcdv A outer s Hh vs Q E hr h=>?_)
 obtain⟨ds,S,post,hS,r,⟨m,M,tr,one,k,dw,ai,hsp,hk,rfl,rfl⟩,q⟩:=h;refine⟨_,(A3 (psS 3 L8 s9)
   (A3 (e5 An (Z4 (pv 3)) (A3 (psS 3 L8 s9)
   (A3 (G3 An rfl (S7 (pcl Y hr T.P4 (A0 (pv 1) A2))) (pgN 4 L8) (A3 (psS 5 L8 (pcl U hr T.P0 (A0 (pv 1) (A0 (pv 4) A2))))
   (A8 (O1 (PW.pt (aF3 (aF0 (Z4 (pv 3))) (aR4 (C3 (aE5 K hr) (pv 2) (pcl J hr T.w5 (A0 (pv 0) (A0 (pv 1) (A0 (pv 5) A2)))) rfl)))) (A3 (psS 3 L8 s9)
   (A8 (psS 6 L8 (pv 5)))) F3))))
   (A8 (O1 (Z4 (pv 3)) (A8 (psS 1 L8 (pv 6))) F3)))))
   (A8 (D0 (pv 1))))),bR2 hS r ?_ q⟩
 refine A9 (E7 (d:=.bool true) bP3 ?_);refine A9 (aB0 (λvr ρ=>∃(ps:List (Int×Int)) (b:Bool) (H:Nat->Nat->Int) (x4 x5 D:Sl),AI M ps/\sp ps=ps/\TT.Po (TT.trn M) (uA one) (uA ps) H/\vr=2*(256-sm k m M H).toNat+b.toNat/\ρ=[.val (.tuple (M.map tN)),.val (.tuple (ps.map pD)),.val (.int k),.val (.bool b),x4,x5,D]) ⟨_,one,true,_,.no,.no,.no,ai,hsp,TT.Po.refl,rfl,rfl⟩ ?_)
 rintro vr ρ' ⟨ps,b,H,x4,x5,D,ai,hsp,po,hv,rfl⟩;refine⟨b,t_b v3,?_⟩;cases b with
 | false=>
  rw[Ac Ai];exact L6 v1 ⟨ps,rfl,ai,hsp,H,po⟩
 | true=>
  rw[Ae rfl];have hl21:=ai.len;refine A9 (E7 (d:=.bool false) bP3 ?_);refine A9 (N0 (Z1 (ds:=(U0 (rgL ps)).map tI) (EF.e' (S5 (pre:=cJ5) (X:=E0) (A1 v1 A5) ⟨M,ps,ai,rfl,rfl⟩))) (λj ρ=>∃(b:Bool) (x4 x5 D:Sl),(b=true->∃N:List (Int×Int),D=.val (.tuple (N.map pD))/\AI M N/\sp N=N/\∃B,TT.Po (TT.trn M) (uA ps) (uA N) B/\1<=sm k m M B)/\ρ=[.val (.tuple (M.map tN)),.val (.tuple (ps.map pD)),.val (.int k),.val (.bool b),x4,x5,D]) ⟨false,x4,x5,D,(λh=>by cases h),rfl⟩ ?_ ?_)
  .rintro j d _ hd ⟨b,x4,x5,D,hb,rfl⟩;rw[Aa9]at hd;obtain⟨t,ht,rfl⟩:=Ap.mp hd;obtain⟨x,y,z,rfl,ai',B,e',he',R,h01⟩:=ai.step dw ((E1 _).mem_iff.mp (Aw ht));refine⟨_,B7,?_⟩;refine A9 (E7 (d:=.tuple ((sp (tw ps (wys x y z))).map pD)) (C8 (pre:=cP4) (X:=E0) (A1 v1 (A1 v4 A5)) ⟨ps,x,y,z,by lia,rfl,rfl⟩) ?_)
   show W K _ [.val (.tuple (M.map tN)),.val (.tuple (ps.map pD)),.val (.int k),.val (.bool b),.val (tI [x,y,z]),.val (.tuple ((sp (tw ps (wys x y z))).map pD)),D] _
   have t2:=aV3 (K:=K) (m:=false) (ρ:=[.val (.tuple (M.map tN)),.val (.tuple (ps.map pD)),.val (.int k),.val (.bool b),.val (tI [x,y,z]),.val (.tuple ((sp (tw ps (wys x y z))).map pD)),D]) (d:=.int k) (d':=tI ((B8 m M).map (hI B))) (ds:=((B8 m M).map (hI B)).map PyData.int) v2 (C8 (pre:=aH3) (X:=E0) (A1 v0 (A1 v1 (A1 v5 A5))) ⟨m,M,tr,ps,sp (tw ps (wys x y z)),B,dw,R,rfl,rfl⟩) rfl (cA8 _) (FitN.fit (M8 _))
   rw[dR0]at t2;refine X4 (aK7 (aS2 (t_b v3)) λ_=>C5 t2) (λh=>?_) (λh=>J5 ⟨b,_,_,D,hb,rfl⟩)
   simp only[Ba,Ay]at h;refine A9 (E7 (d:=.bool true) bP3 ?_);exact E7 (d:=.tuple ((sp (tw ps (wys x y z))).map pD)) v5 ⟨true,_,_,_,λ_=>⟨sp (tw ps (wys x y z)),rfl,ai',cT2 _,B,R,dI7 dw R hk he' h01 h.2⟩,rfl⟩
  .rintro _ ⟨b,x4,x5,D,hb,rfl⟩;refine X4 (t_b v3) (λh=>?_) (λh=>J5 ?_)
   .subst h;obtain⟨N,rfl,ai',hs',B,R,h1⟩:=hb rfl;refine E7 (d:=.tuple (N.map pD)) v6 ⟨_,?_,N,true,_,_,_,_,ai',hs',po.trans R,rfl,rfl⟩;have h2:=dI6 k m M H B;have h3:=dP4 dw (po.trans R) hk;show 2*(256-sm k m M (λp q=>H p q+B p q)).toNat+1<vr
    rw[hv];show _<2*(256-sm k m M H).toNat+1
    lia
   .subst h;refine⟨_,?_,ps,false,H,_,_,_,ai,hsp,po,rfl,rfl⟩;rw[hv];show 2*(256-sm k m M H).toNat+0<2*(256-sm k m M H).toNat+1
    lia
theorem dR2 (T:Tx K mg a):D2 P w K mg base CX0 3 a.T4 a.T9 ["_law_drawing", "_law_one", "_law_other", "_law_found"] (spV K bZ6):=by
 have U:D2 P w K mg base CX0 2 _ _ _ _:=dC4 T
 have N:D2 P w K mg base CX0 1 _ _ _ _:=cQ9 T
 have M:D2 P w K mg base CX0 1 _ _ _ _:=dD9 T
 refine T.J9.F.ok sc__law_heights_right (X3 λds d ⟨_,_,_,_,_,_,_,_,e,_⟩=>by rw[e];rfl) (λcdv A outer s Hh vs Q E hr h=>?_)
 obtain⟨ds,S,d,hS,r,⟨m,Y,tr,one,other,H,D,po,rfl,rfl⟩,q⟩:=h;refine⟨_,(A3 (aN5 (i:=4) sc__law_heights_right.nd rfl (Or.inr rfl) (pcl U hr T.M6 (A0 (pv 0) A2)))
   (A3 (psS 5 sc__law_heights_right (C0 (bQ7 K rfl) (by rfl) T.Q2 boot_sorted (A0 (E3 (cE6 K hr rfl) (by rfl) T.cT6 boot_set (A0 (dH9 (M3 (T:=["_law_way"]) (N':=["_law_way", "_law_left"]) (is:=[4]) rfl (.of rfl rfl rfl (by exact⟨rfl,trivial⟩) rfl rfl rfl (by first | exact⟨⟨_,rfl,.inl rfl,.inl rfl⟩,trivial⟩ | exact⟨⟨_,rfl,.inr rfl,.inl rfl⟩,trivial⟩)) (bN2 (pv 4)) (L5 (by decide)) λ_ _ _ _=>⟨(K4 (i:=0) ndW rfl (Or.inl rfl)),(aK3 (C3 (aM1 K hr) (B1 (V5 K hr) (pv 1) (pv 0) (λ_ _=>rfl)) (D6 (A0 A4 (A0 A4 (A0 A4 A2)))) (F8 _))),(B1 (V5 K hr) (pv 1) (pv 0) (λ_ _=>rfl))⟩)) A2)) A2)))
   (A3 (O1 (PW.pt (cC3 (aF0 (Z4 (C0 (dO1 K) (by rfl) T.Q6 boot_isinstance (A0 (pv 3) (A0 (cK5 rfl T.M1 boot_tuple) A2))))) (cC3 (C3 dF4 (C0 (aZ3 K) (by rfl) T.P9 Bm (A0 (pv 3) A2)) (C0 (aZ3 K) (by rfl) T.P9 Bm (A0 (pv 5) A2)) (F8 _)) (bU6 (aF0 (Z4 (C0 (cF5 K rfl) (by rfl) T.cM0 boot_all (A0 (M3 (T:=["_law_number"]) (N':=["_law_number"]) (is:=[]) rfl (.of rfl rfl rfl (by exact trivial) rfl rfl rfl (by exact trivial)) (Y6 (pv 3)) (L5 (by decide)) λ_ _ _ _=>⟨(K4 (i:=0) (by decide +kernel:(["_law_number"]:List Str).Nodup) rfl (Or.inl rfl)),N3,(pcl N hr T.aH0 (A0 (pv 0) A2))⟩) A2)))))))) (A8 (D0 s9)) F3)
   (A3 (psS 6 sc__law_heights_right (bE3 K hr (D6 (A0 A4 (A0 A4 (A0 A4 A2)))) A4))
   (A3 (G3 An rfl (cB5 true K rfl T.bZ1 (A0 (pv 5) (A0 (pv 3) A2))) (Y5 (n:=2) rfl (E4 (pgN 7 sc__law_heights_right) (E4 (pgN 8 sc__law_heights_right) S4))) (A8 (Z7 K hr (pv 6) (pv 7) (pv 8))))
   (A3 (dN5 (G3 An rfl (bN2 (pv 4)) (pgN 9 sc__law_heights_right) (A8 (O1 (C3 dF4 (B4 N4 (B1 (V5 K hr) (pv 6) (B1 (V5 K hr) (pv 4) (pv 9) (λ_ _=>rfl)) (λ_ _=>rfl)) (B1 (V5 K hr) (pv 6) (B1 (V5 K hr) (pv 4) (D6 (A0 (B1 (ixK K) (pv 9) A4 (λ_ _=>rfl)) (A0 (B1 (ixK K) (pv 9) A4 (λ_ _=>rfl)) A2))) (λ_ _=>rfl)) (λ_ _=>rfl))) (pcl M hr T.U4 (A0 (pv 1) (A0 (pv 2) (A0 (pv 9) A2)))) (F8 _)) (A8 (D0 s9)) F3))))
   (A8 (D0 s9)))))))),K8 hS r ?_ q⟩
 have G:=D.good
 have m7:=D.m7
 have hil:=aJ2 D
 have m02:2∈TT.trn Y 0:=(TT.C7 G.outs.1).1
 have h02:hI H [0,2,1]=0:=by
  have:=Y7 D po m02
  rw[aX0 D]at this;exact this.trans po.z
 refine A9 (aL2 (pre:=cN0) (X:=E0) (A1 v0 A5) ⟨m,Y,tr,D,rfl,rfl⟩ ?_);rintro _ ⟨R,rfl,lq⟩;show W K _ [.val (.tuple (Y.map tN)),.val (.tuple (one.map pD)),.val (.tuple (other.map pD)),.val (tI ((B8 m Y).map (hI H))),.val (.dict (J8 R)),.no,.no,.no,.no,.no] _;obtain⟨l,hl1,hl2⟩:=lq.inn D;have cm:=cK6 (K:=K) (kvs:=R) (ρ:=[.val (.tuple (Y.map tN)),.val (.tuple (one.map pD)),.val (.tuple (other.map pD)),.val (tI ((B8 m Y).map (hI H))),.val (.dict (J8 R)),.no,.no,.no,.no,.no]) (i:=4) (n:=1) (is:=[4]) (g:=G7 0) (tt:=bB2 (tOp (bQ3 K true) (tOp (aL3 K) (D7 1) (D7 0)) (bP4 (G1 (tC (.int 0)) (G1 (tC (.int 2)) (G1 (tC (.int 1)) V7)))))) (te:=tOp (aL3 K) (D7 1) (D7 0)) (fLd Y) rfl (by have:=lq.le;unfold PySem.sizeLine;lia) (λy hy=>by
  obtain⟨p,J,B,rfl⟩:=lq.ok.el y hy;refine⟨_,B7,?_⟩;have e:=bA8 (K:=K) (m:=false) (ρ:=(slC [.val (.tuple (Y.map tN)),.val (.tuple (one.map pD)),.val (.tuple (other.map pD)),.val (tI ((B8 m Y).map (hI H))),.val (.dict (J8 R)),.no,.no,.no,.no,.no] 1 [4]).set 0 (.val (.tuple ([(p:Int),(J:Int)].map PyData.int)))) (d:=tI (cL (TT.lnd (TT.trn Y) p J))) (d':=tI [0,2,1]) (Q9 (kvs:=R) (ks:=[(p:Int),(J:Int)]) v1 v0 (lq.at_ p J B) (l8 _)) (F5 (ds:=[.int 0,.int 2,.int 1]) (A1 A7 (A1 A7 (A1 A7 A5)))) (FitN.fit (M8 _)) (FitN.fit (M8 _));rw[LV.Y8]at e;show match (if cL (TT.lnd (TT.trn Y) p J)=[0,2,1] then none else some (tI (cL (TT.lnd (TT.trn Y) p J)))) with | none=>_ | some y=>_
  by_cases c:cL (TT.lnd (TT.trn Y) p J)=[0,2,1]
  .rw[Ae c];rw[Bc c]at e;exact C5 e
  .rw[Ac c];rw[Aq c]at e;exact⟨C5 e,Q9 (kvs:=R) (ks:=[(p:Int),(J:Int)]) v1 v0 (lq.at_ p J B) (l8 _)⟩)
 rw[hl1]at cm;refine A9 (F9 (ds:=(B8 m Y).map tI) (cI0 (l:=l) (ss:=B8 m Y) cm (λt ht e=>by
  obtain⟨x,y,z,e'⟩:=dJ4 D ((hl2 t).mpr ht);rw[e']at e;cases e) (by lia) (cE4 m Y) (bY3 D) hl2) ?_ (show 5<10 by decide))
 refine bA0 (i:=5) rfl ?_;show W K _ [.val (.tuple (Y.map tN)),.val (.tuple (one.map pD)),.val (.tuple (other.map pD)),.val (tI ((B8 m Y).map (hI H))),.val (.dict (J8 R)),.val (.list ((B8 m Y).map tI)),.no,.no,.no,.no] _;have ca:=M4 (K:=K) (m:=true) (ρ:=[.val (.tuple (Y.map tN)),.val (.tuple (one.map pD)),.val (.tuple (other.map pD)),.val (tI ((B8 m Y).map (hI H))),.val (.dict (J8 R)),.val (.list ((B8 m Y).map tI)),.no,.no,.no,.no]) (n:=1) (is:=[]) (g:=G7 0) (tt:=aN0) (te:=aW8 (spV K bK0) [] E0 (G1 (D7 0) V7)) fWh (aC7 (ds:=((B8 m Y).map (hI H)).map PyData.int) v3) (by rw[Aa3,Aa3];unfold PySem.sizeLine;lia) (λd hd=>by
  obtain⟨p,hp,rfl⟩:=Aa8.mp hd;exact⟨_,B7,y0,C8 (A1 v0 A5) ⟨_,rfl,rfl⟩⟩)
 rw[cA1]at ca;refine A9 (X4 (b := !true||(!decide (((((B8 m Y).map (hI H)).map PyData.int).length:Int)=(((B8 m Y).map tI).length:Int)) || !((((B8 m Y).map (hI H)).map λ_=>true).all id))) (cW2 (aS2 (t_b (cK1 (T := "tuple") (d:=tI ((B8 m Y).map (hI H))) v3))) λh=>(cW2 (C5 (dD3 (S8 (ds:=((B8 m Y).map (hI H)).map PyData.int) (A1 v3 A5)) (S8 (ds:=(B8 m Y).map tI) (A1 v5 A5)))) λh=>(aS2 (t_b (dQ2 (A1 (EF.e' ca) A5)))))) (λh=>?_) (λh=>J5 ?_))
 .rw[Aa3,Aa3,Aa3]at h;simp at h
 refine A9 (aE8 (aR6 (ks:=[0,2,1]) (d:=.int 0) (F5 (ds:=[.int 0,.int 2,.int 1]) (A1 A7 (A1 A7 (A1 A7 A5)))) A7 rfl) ?_ (show 6<10 by decide))
 refine A9 (N0 (cT7 true (ds:=(B8 m Y).map tI) (es:=((B8 m Y).map (hI H)).map PyData.int) (A1 v5 (A1 v3 A5)) (by rw[Aa3,Aa3,Aa3])) (λj ρ=>∃x7 x8:Sl,(x7.nb=true/\x8.nb=true)/\ρ=[.val (.tuple (Y.map tN)),.val (.tuple (one.map pD)),.val (.tuple (other.map pD)),.val (tI ((B8 m Y).map (hI H))),.val (.dict (J8 R)),.val (.list ((B8 m Y).map tI)),.tr (.dic (kvI H ([0,2,1]::(B8 m Y).take j))),x7,x8,.no]) ⟨.no,.no,⟨rfl,rfl⟩,by
  show _=[_,_,_,_,_,_,Sl.tr (.dic [([0,2,1],.int (hI H [0,2,1]))]),_,_,_]
  rw[h02];rfl⟩ ?_ ?_)
 .rintro j d _ hd ⟨x7,x8,⟨b7,b8⟩,rfl⟩;obtain⟨d1,d2,e1,e2,rfl⟩:=aV9 hd;rw[Aa9]at e1;obtain⟨t,ht,rfl⟩:=Ap.mp e1;rw[Aa9,Aa9,ht]at e2;cases Ab4 e2;refine⟨_,aD1 (ds:=[tI t,.int (hI H t)]) (F6 B7 (F6 B7 Y4)),?_⟩;have tk:(B8 m Y).take (j+1)=(B8 m Y).take j++[t]:=by rw[Dm,ht];rfl
  have hjl:j<(B8 m Y).length:=(Ab0.mp ht).1
  have nd:=bY3 D
  have hn:t∉[0,2,1]::(B8 m Y).take j:=λz=>by
   rcases Aa1.mp z with z | z
   .have:=Aw ht
    rw[z]at this;exact absurd rfl (Ax (Au.mp this).2)
   .have nd2:((B8 m Y).take (j+1)).Nodup:=nd.sublist (List.take_sublist _ _)
    rw[tk]at nd2;exact(Aa4.mp nd2).2.2 t z t (by simp) rfl
  refine aA1 (ks:=t) (d:=.int (hI H t)) (i:=6) v8 rfl v7 (by unfold kvI;rw[Aa3,Ar,Ad1];unfold PySem.sizeLine;lia) ⟨.val (tI t),.val (.int (hI H t)),⟨rfl,rfl⟩,?_⟩
  rw[cY5 hn,tk];rfl
 rintro _ ⟨x7,x8,_,rfl⟩;rw[show(zpD ((B8 m Y).map tI) (((B8 m Y).map (hI H)).map PyData.int)).length=(B8 m Y).length by rw[aR0 (by rw[Aa3,Aa3,Aa3]),Aa3],Cf]
 refine aM4 (i:=6) rfl ?_;show W K _ [.val (.tuple (Y.map tN)),.val (.tuple (one.map pD)),.val (.tuple (other.map pD)),.val (tI ((B8 m Y).map (hI H))),.val (.dict (J8 R)),.val (.list ((B8 m Y).map tI)),.val (dD (kvI H ([0,2,1]::B8 m Y))),x7,x8,.no] _;rw[aB8 (cS1 H _)];have hat:∀p J,J∈TT.trn Y p->atD (kvI H ([0,2,1]::B8 m Y)) (cL (TT.lnd (TT.trn Y) p J))=some (.int (H p J)):=λp J B=>by
  have e:=Y7 D po B
  unfold hN at e;rw[<- e];refine cM9 ?_;by_cases c:TT.lnd (TT.trn Y) p J=[0,2,1]
  .rw[c];exact Aj
  .exact Ad4 _ ((u7 D).mpr ⟨p,J,B,rfl,c⟩)
 refine A9 (dG4 (kvs:=R) (i:=4) rfl (λj ρ=>∃x9:Sl,ρ=[.val (.tuple (Y.map tN)),.val (.tuple (one.map pD)),.val (.tuple (other.map pD)),.val (tI ((B8 m Y).map (hI H))),.val (.dict (J8 R)),.val (.list ((B8 m Y).map tI)),.val (.dict (J8 (kvI H ([0,2,1]::B8 m Y)))),x7,x8,x9]) ⟨.no,rfl⟩ ?_ ?_)
 .rintro j y _ hy ⟨x9,rfl⟩;obtain⟨p,J,B,rfl⟩:=lq.ok.el y (Aw hy);have hq2:=G.sym B;refine⟨_,B7,?_⟩;show W K _ [.val (.tuple (Y.map tN)),.val (.tuple (one.map pD)),.val (.tuple (other.map pD)),.val (tI ((B8 m Y).map (hI H))),.val (.dict (J8 R)),.val (.list ((B8 m Y).map tI)),.val (.dict (J8 (kvI H ([0,2,1]::B8 m Y)))),x7,x8,.val (pD ((p:Int),(J:Int)))] _;have s1:=po.st _ _ B;have s2:=po.st _ _ hq2;refine X4 (C5 (dD3 (i:=H p J-H J p) (j:=TT.rsn (uA one) (uA other) p J) (K5 (g:=λi j=>i-j) (Q9 (kvs:=kvI H ([0,2,1]::B8 m Y)) (ks:=cL (TT.lnd (TT.trn Y) p J)) v6 (Q9 (kvs:=R) (ks:=[(p:Int),(J:Int)]) v4 (A6 (i:=9) rfl) (lq.at_ p J B) (l8 _)) (hat p J B)) (Q9 (kvs:=kvI H ([0,2,1]::B8 m Y)) (ks:=cL (TT.lnd (TT.trn Y) J p)) v6 (Q9 (kvs:=R) (ks:=[(J:Int),(p:Int)]) v4 (F5 (ds:=[.int (J:Int),.int (p:Int)]) (A1 (LV.E.bor (LV.E.imm (m:=false) (D9 (ds:=[.int (p:Int),.int (J:Int)]) (A6 (i:=9) rfl) (A7 (i:=1)) rfl rfl) rfl)) (A1 (LV.E.bor (LV.E.imm (m:=false) (D9 (ds:=[.int (p:Int),.int (J:Int)]) (A6 (i:=9) rfl) (A7 (i:=0)) rfl rfl) rfl)) A5))) (lq.at_ J p hq2) (l8 _)) (hat J p hq2))) (C8 (pre:=cU5) (X:=E0) (A1 v1 (A1 v2 (A1 (A6 (i:=9) rfl) A5))) ⟨one,other,p,J,by lia,rfl,rfl⟩))) (λh=>?_) (λh=>J5 ⟨_,rfl⟩)
  exfalso
  rw[Bc (by lia)]at h
  cases h
 rintro _ ⟨x9,rfl⟩;exact L6 bP3 rfl
end
set_option maxHeartbeats 1000000
theorem U2:C1 ["_law_script", "_law_m", "_law_drawing", "_law_outs", "_law_one", "_law_other", "_law_third", "_law_found", "_law_back", "_law_further"] ["_law_script"] (B2 cP3):={}
def dP5:PyData->Option PyData
 | .int i=>some (.int (0-i))
 | _=>none
theorem bK9 (H:Nat->Nat->Int):∀L:List (List Int),((L.map (hI λp q => - H p q)).map PyData.int).filterMap dP5=(L.map (hI H)).map PyData.int
 | []=>rfl
 | t::L=>by
  have e:=bK9 H L
  simp only[Ac7];rw[Ao];show PyData.int (0-hI (λp q => - H p q) t)::_=_
  rw[e,cO2,show 0 - -hI H t=hI H t by lia]
def dR8:PyData->Option PyData
 | .tuple [.int i,.int j]=>some (.int (i+j))
 | _=>none
theorem bO3 (H H':Nat->Nat->Int):∀L:List (List Int),(zpD ((L.map (hI H)).map PyData.int) ((L.map (hI H')).map PyData.int)).filterMap dR8=(L.map (hI λp q=>H p q+H' p q)).map PyData.int
 | []=>rfl
 | t::L=>by
  have e:=bO3 H H' L
  simp only[Ac7,zpD];rw[Ao];show PyData.int (hI H t+hI H' t)::_=_;rw[e,cS9]
def fZe (_:PyData):Option PyData:=some (.int 0)
theorem cC1:∀L:List (List Int),∀H:Nat->Nat->Int,((L.map (hI H)).map PyData.int).filterMap fZe=(L.map (hI λ_ _=>0)).map PyData.int
 | [],_=>rfl
 | t::L,H=>by
  have e:=cC1 L H
  simp only[Ac7];rw[Ao];show PyData.int 0::_=_;rw[e,cV8]
theorem dH8 (l:List Int):PyData.eqv (.list (l.map PyData.int)) (.list (l.map PyData.int))=true:=by
 have:PyData.eqv (.list (l.map PyData.int)) (.list (l.map PyData.int))=PyData.eqvAll (l.map PyData.int) (l.map PyData.int):=by rw[PyData.eqv]
 rw[this,o9 (f:=PyData.int) (λa b=>rfl)]
 exact Bc rfl
theorem cJ0 (l:List Int):Fit (.list (l.map PyData.int)):=(aL0 (n:=0) (bL6 l)).fit
section
variable {P:Program}{w:World}{K:Frag}{mg:Str->Option Value}{base:Heap}{a:Ad}
theorem dM5 (T:Tx K mg a):D2 P w K mg base CX0 7 a.bX2 a.bO1 ["_law_script"] (cC6 K):=by
 have D:D2 P w K mg base CX0 1 _ _ _ _:=aK9 T
 have M:D2 P w K mg base CX0 1 _ _ _ _:=bZ9 T
 have G__law_built:D2 P w K mg base CX0 3 _ _ _ _:=cJ7 T
 have G__law_arrows:D2 P w K mg base CX0 1 _ _ _ _:=dK5 T
 have G__law_moved:D2 P w K mg base CX0 2 _ _ _ _:=dP8 T
 have G__law_end:D2 P w K mg base CX0 4 _ _ _ _:=dO8 T
 have J:D2 P w K mg base CX0 6 _ _ _ _:=dU4 T
 have Y:D2 P w K mg base CX0 3 _ _ _ _:=dR2 T
 refine T.dC5.F.ok U2 (λvs H Q E ⟨_,_,e,_⟩=>by rw[e];rfl) (λcdv A outer s H vs Q E hr h=>?_)
 obtain⟨ad,ns,rfl,hS,hl,q⟩:=h;have r:Reps K (hid (λ_=>False) H) [V.ref ad] [lI ns]:=by rw[cR7];exact .cons (.lst hS (M0 ns)) .nil
 refine⟨_,(A3 (psS 1 U2 (B4 U1 (pcl D hr T.N8 (A0 (pcl M hr T.N2 (A0 (pv 0) (A0 A4 A2))) (A0 A4 A2))) A4))
   (A3 (aM0 (pcl G__law_built hr T.aH7 (A0 (pcl M hr T.N2 (A0 (pv 0) (A0 A4 A2))) (A0 (W8 (dI9 K) (pv 0) (S6 A4) (S6 A4)) (A0 (pv 1) A2)))) (Y5 (n:=2) rfl (E4 (pgN 2 U2) (E4 (pgN 3 U2) S4))))
   (A3 (psS 4 U2 (pcl G__law_arrows hr T.aC5 (A0 (pv 3) A2)))
   (A3 (psS 5 U2 (pcl G__law_moved hr T.l9 (A0 (pv 4) (A0 (W8 (dI9 K) (pv 0) (S6 A4) (S6 A4)) A2))))
   (A3 (psS 6 U2 (pcl G__law_moved hr T.l9 (A0 (pv 5) (A0 (W8 (dI9 K) (pv 0) (S6 A4) (S6 A4)) A2))))
   (A3 (O1 (C3 bB5 (B4 U1 (pcl D hr T.N8 (A0 (pcl M hr T.N2 (A0 (pv 0) (A0 A4 A2))) (A0 A4 A2))) A4) A4 (F8 _)) (A3 (psS 5 U2 (pcl G__law_end hr T.aD8 (A0 (pv 2) (A0 (pv 4) (A0 A4 A2)))))
   (A8 (psS 6 U2 (pcl G__law_end hr T.aD8 (A0 (pv 2) (A0 (pv 4) (A0 (aO9 w9 A4) A2))))))) F3)
   (A3 (psS 7 U2 (pcl J hr T.R7 (A0 (pv 2) (A0 (pv 4) (A0 (pv 5) A2)))))
   (A3 (O1 (PW.pt (cC3 (aF0 (Z4 (pcl Y hr T.J9 (A0 (pv 2) (A0 (pv 4) (A0 (pv 5) (A0 (pv 7) A2))))))) (bU6 (C3 (aM1 K hr) (pcl J hr T.R7 (A0 (pv 2) (A0 (pv 4) (A0 (pv 5) A2)))) (pv 7) (F8 _))))) (A8 (D0 s9)) F3)
   (A3 (psS 8 U2 (pcl J hr T.R7 (A0 (pv 2) (A0 (pv 5) (A0 (pv 4) A2)))))
   (A3 (O1 (PW.pt (cC3 (aF0 (Z4 (pcl Y hr T.J9 (A0 (pv 2) (A0 (pv 5) (A0 (pv 4) (A0 (pv 8) A2))))))) (bU6 (C3 (aM1 K hr) (M3 (T:=["_law_number"]) (N':=["_law_number"]) (is:=[]) rfl (.of rfl rfl rfl (by exact trivial) rfl rfl rfl (by exact trivial)) (Y6 (pv 8)) (L5 (by decide)) λ_ _ _ _=>⟨(K4 (i:=0) (by decide +kernel:(["_law_number"]:List Str).Nodup) rfl (Or.inl rfl)),N3,(B4 N4 A4 (pv 0))⟩) (E3 (dS6 K) (by rfl) T.aM5 boot_list (A0 (pv 7) A2)) (F8 _))))) (A8 (D0 s9)) F3)
   (A3 (psS 9 U2 (pcl J hr T.R7 (A0 (pv 2) (A0 (pv 5) (A0 (pv 6) A2)))))
   (A3 (O1 (aF0 (Z4 (pcl Y hr T.J9 (A0 (pv 2) (A0 (pv 5) (A0 (pv 6) (A0 (pv 9) A2))))))) (A8 (D0 s9)) F3)
   (A3 (O1 (C3 (aM1 K hr) (pcl J hr T.R7 (A0 (pv 2) (A0 (pv 4) (A0 (pv 6) A2)))) (E3 (bR5 K) (by rfl) T.M1 boot_tuple (A0 (M3 (T:=["_law_here", "_law_there"]) (N':=["_law_here", "_law_there"]) (is:=[]) rfl (.of rfl rfl rfl (by exact trivial) rfl rfl rfl (by exact trivial)) (cB5 false K rfl T.bZ1 (A0 (pv 7) (A0 (pv 9) A2))) (dV6 (by decide) (by decide)) λ_ _ _ _=>⟨(Y5 (n:=2) rfl (E4 (K4 (i:=0) (by decide +kernel:(["_law_here", "_law_there"]:List Str).Nodup) rfl (Or.inl rfl)) (E4 (K4 (i:=1) (by decide +kernel:(["_law_here", "_law_there"]:List Str).Nodup) rfl (Or.inl rfl)) S4))),N3,(B4 G4 (pv 0) (pv 1))⟩) A2)) (F8 _)) (A8 (D0 s9)) F3)
   (A8 (D0 (aB2 (dN9 K hr) (pcl J hr T.R7 (A0 (pv 2) (A0 (pv 6) (A0 (pv 6) A2)))) (E3 (bR5 K) (by rfl) T.M1 boot_tuple (A0 (M3 (T:=["_law_number"]) (N':=["_law_number"]) (is:=[]) rfl (.of rfl rfl rfl (by exact trivial) rfl rfl rfl (by exact trivial)) (Y6 (pv 7)) (L5 (by decide)) λ_ _ _ _=>⟨(K4 (i:=0) (by decide +kernel:(["_law_number"]:List Str).Nodup) rfl (Or.inl rfl)),N3,A4⟩) A2)) (F8 _))))))))))))))))),K8 (S:=λ_=>False) (λ_ z=>z.elim) r ?_ (d:=.bool true) (λv H' _ rv=>by cases rv;exact q H')⟩
 obtain⟨m,hm,hm7⟩:∃m:Nat,mx (cl ns 0) 90 % 8=(m:Int)/\m<=7:=⟨(mx (cl ns 0) 90 % 8).toNat,by lia,by lia⟩
 refine A9 (E7 (d:=.int (m:Int)) (by rw[<- hm];exact e_i (C8 (A1 (C8 (A1 (A6 rfl) (A1 A7 A5)) ⟨ns,0,by lia,rfl,rfl⟩) (A1 A7 A5)) ⟨_,90,by lia,rfl,rfl⟩) A7 (by decide)) ?_)
 obtain⟨U,tr,B⟩:=dT7 (TT.m8 (nu (cl ns 1) (bQ8 ns (some 2) (some 9))) m) (dR6 (cl ns 1) m);have dw:Dw m U tr:=⟨hm7,_,_,_,B⟩;refine A9 (cP8 (m:=true) (C8 (A1 (C8 (A1 (A6 rfl) (A1 A7 A5)) ⟨ns,1,by lia,rfl,rfl⟩) (A1 (EF.e' (bZ4 (ds:=ns.map PyData.int) (A6 rfl) (u4 A7) (u4 A7) (O0 ns))) (A1 (A6 rfl) A5))) ⟨cl ns 1,bQ8 ns (some 2) (some 9),m,U,tr,hm7,B,by rw[dE9],rfl⟩) (aD1 (F6 B7 (F6 B7 Y4))) ?_)
 have cut:∀{ρ:List Sl} (lo hi:Int),ρ[0]? = some (.val (lI ns))->LV.E K true (tSl (dA7 K) (D7 0) (bZ3 (tC (.int lo))) (bZ3 (tC (.int hi)))) ρ (lI (bQ8 ns (some lo) (some hi))):=λ{ρ} lo hi h=>by
  have e:=bZ4 (K:=K) (ρ := ρ) (ds:=ns.map PyData.int) (A6 (i:=0) h) (u4 (A7 (i:=lo))) (u4 (A7 (i:=hi))) (O0 ns)
  rw[dE9]at e;exact EF.e' e
 have ai0:AI U (sp (arr tr)):=(dN2 dw).perm (aQ5 _)
 refine A9 (E7 (d:=.tuple ((sp (arr tr)).map pD)) (C8 (pre:=cQ6) (X:=E0) (A1 v3 A5) ⟨m,U,tr,dw,rfl,rfl⟩) ?_);generalize hone:sp (arr tr)=one at ai0;have hsp:sp one=one:=by rw[<- hone];exact cT2 _
 refine A9 (aL2 (pre:=cQ1) (X:=E0) (A1 v4 (A1 (cut 9 15 rfl) A5)) ⟨m,U,tr,one,_,dw,ai0,hsp,Bi (bX6 _ _ _) hl,rfl,rfl⟩ ?_);rintro _ ⟨ot0,rfl,mv1⟩;refine A9 (aL2 (pre:=cQ1) (X:=E0) (A1 v5 (A1 (cut 15 21 rfl) A5)) ⟨m,U,tr,ot0,_,dw,mv1.ai,mv1.srt,Bi (bX6 _ _ _) hl,rfl,rfl⟩ ?_);rintro _ ⟨th0,rfl,mv2⟩;show W K _ [.val (lI ns),.val (.int (m:Int)),.val (.tuple (U.map tN)),.val (.tuple (tr.map tN)),.val (.tuple (one.map pD)),.val (.tuple (ot0.map pD)),.val (.tuple (th0.map pD)),.no,.no,.no] _;refine A9 (dS8 (λρ=>∃N R:List (Int×Int),(∃H,TT.Po (TT.trn U) (uA one) (uA N) H)/\(∃H,TT.Po (TT.trn U) (uA N) (uA R) H)/\ρ=[.val (lI ns),.val (.int (m:Int)),.val (.tuple (U.map tN)),.val (.tuple (tr.map tN)),.val (.tuple (one.map pD)),.val (.tuple (N.map pD)),.val (.tuple (R.map pD)),.no,.no,.no]) (C5 (aD5 (e_i (C8 (A1 (C8 (A1 v0 (A1 A7 A5)) ⟨ns,21,by lia,rfl,rfl⟩) (A1 A7 A5)) ⟨_,96,by lia,rfl,rfl⟩) A7 (by decide)) A7)) (λh=>?_) (λh=>J5 ⟨ot0,th0,mv1.po,mv2.po,rfl⟩) ?_)
 .refine A9 (aL2 (pre:=cO0) (X:=E0) (A1 v2 (A1 v4 (A1 (A7 (i:=1)) A5))) ⟨m,U,tr,one,1,dw,ai0,hsp,.inl rfl,rfl,rfl⟩ ?_);rintro _ ⟨N,rfl,m1⟩;refine aL2 (pre:=cO0) (X:=E0) (A1 v2 (A1 v4 (A1 (aO6 (A7 (i:=1))) A5))) ⟨m,U,tr,one,-1,dw,ai0,hsp,.inr rfl,rfl,rfl⟩ ?_;rintro _ ⟨R,rfl,m2⟩;obtain⟨H1,p1⟩:=m1.po;obtain⟨H2,p2⟩:=m2.po;exact⟨N,R,⟨H1,p1⟩,⟨_,p1.symm.trans p2⟩,rfl⟩
 rintro _ ⟨N,R,⟨H1,p1⟩,⟨H2,p2⟩,rfl⟩;have hil:=aJ2 dw;refine A9 (E7 (d:=tI ((B8 m U).map (hI H1))) (C8 (pre:=aH3) (X:=E0) (A1 v2 (A1 v4 (A1 v5 A5))) ⟨m,U,tr,one,N,H1,dw,p1,rfl,rfl⟩) ?_);show W K _ [.val (lI ns),.val (.int (m:Int)),.val (.tuple (U.map tN)),.val (.tuple (tr.map tN)),.val (.tuple (one.map pD)),.val (.tuple (N.map pD)),.val (.tuple (R.map pD)),.val (tI ((B8 m U).map (hI H1))),.no,.no] _;have n1:=bA8 (K:=K) (m:=false) (ρ:=[.val (lI ns),.val (.int (m:Int)),.val (.tuple (U.map tN)),.val (.tuple (tr.map tN)),.val (.tuple (one.map pD)),.val (.tuple (N.map pD)),.val (.tuple (R.map pD)),.val (tI ((B8 m U).map (hI H1))),.no,.no]) (C8 (pre:=aH3) (X:=E0) (A1 v2 (A1 v4 (A1 v5 A5))) ⟨m,U,tr,one,N,H1,dw,p1,rfl,rfl⟩) v7 (FitN.fit (M8 _)) (FitN.fit (M8 _));rw[LV.Y8,Bc rfl]at n1;refine A9 (X4 (b := !true || !true) (cW2 (aS2 (t_b (C8 (pre:=bZ6) (X:=E0) (A1 v2 (A1 v4 (A1 v5 (A1 v7 A5)))) ⟨m,U,tr,one,N,H1,dw,p1,rfl,rfl⟩))) λ_=>C5 n1) (λh=>by cases h) (λh=>J5 ?_))
 refine A9 (E7 (d:=tI ((B8 m U).map (hI λp q => - H1 p q))) (C8 (pre:=aH3) (X:=E0) (A1 v2 (A1 v5 (A1 v4 A5))) ⟨m,U,tr,N,one,_,dw,p1.symm,rfl,rfl⟩) ?_)
 show W K _ [.val (lI ns),.val (.int (m:Int)),.val (.tuple (U.map tN)),.val (.tuple (tr.map tN)),.val (.tuple (one.map pD)),.val (.tuple (N.map pD)),.val (.tuple (R.map pD)),.val (tI ((B8 m U).map (hI H1))),.val (tI ((B8 m U).map (hI λp q => - H1 p q))),.no] _
 have c2:=M4 (K:=K) (m:=true) (ρ:=[.val (lI ns),.val (.int (m:Int)),.val (.tuple (U.map tN)),.val (.tuple (tr.map tN)),.val (.tuple (one.map pD)),.val (.tuple (N.map pD)),.val (.tuple (R.map pD)),.val (tI ((B8 m U).map (hI H1))),.val (tI ((B8 m U).map (hI λp q => - H1 p q))),.no]) (n:=1) (is:=[]) (g:=G7 0) (tt:=aN0) (te:=tOp (rI0 λi j=>.int (i-j)) (tC (.int 0)) (D7 0)) dP5 (aC7 (ds:=((B8 m U).map (hI λp q => - H1 p q)).map PyData.int) v8) (by rw[Aa3,Aa3];unfold PySem.sizeLine;lia) (λd hd=>by
  obtain⟨p,hp,rfl⟩:=Aa8.mp hd;exact⟨_,B7,y0,K5 (g:=λi j=>i-j) A7 v0⟩)
 rw[bK9]at c2;have n2:=bA8 (K:=K) (m:=false) (EF.e' c2) (EF.e' (cX8 (d:=tI ((B8 m U).map (hI H1))) (A1 v7 A5) rfl (O0 _))) (cJ0 _) (cJ0 _);rw[dH8]at n2;refine A9 (X4 (b := !true || !true) (cW2 (aS2 (t_b (C8 (pre:=bZ6) (X:=E0) (A1 v2 (A1 v5 (A1 v4 (A1 v8 A5)))) ⟨m,U,tr,N,one,_,dw,p1.symm,rfl,rfl⟩))) λ_=>C5 n2) (λh=>by cases h) (λh=>J5 ?_))
 refine A9 (E7 (d:=tI ((B8 m U).map (hI H2))) (C8 (pre:=aH3) (X:=E0) (A1 v2 (A1 v5 (A1 v6 A5))) ⟨m,U,tr,N,R,H2,dw,p2,rfl,rfl⟩) ?_);show W K _ [.val (lI ns),.val (.int (m:Int)),.val (.tuple (U.map tN)),.val (.tuple (tr.map tN)),.val (.tuple (one.map pD)),.val (.tuple (N.map pD)),.val (.tuple (R.map pD)),.val (tI ((B8 m U).map (hI H1))),.val (tI ((B8 m U).map (hI λp q => - H1 p q))),.val (tI ((B8 m U).map (hI H2)))] _
 refine A9 (X4 (b := !true) (aS2 (t_b (C8 (pre:=bZ6) (X:=E0) (A1 v2 (A1 v5 (A1 v6 (A1 (A6 (i:=9) rfl) A5)))) ⟨m,U,tr,N,R,H2,dw,p2,rfl,rfl⟩))) (λh=>by cases h) (λh=>J5 ?_))
 have c3:=M4 (K:=K) (m:=true) (ρ:=[.val (lI ns),.val (.int (m:Int)),.val (.tuple (U.map tN)),.val (.tuple (tr.map tN)),.val (.tuple (one.map pD)),.val (.tuple (N.map pD)),.val (.tuple (R.map pD)),.val (tI ((B8 m U).map (hI H1))),.val (tI ((B8 m U).map (hI λp q => - H1 p q))),.val (tI ((B8 m U).map (hI H2)))]) (n:=2) (is:=[]) (g:=cL9 K 2 (aH4 (G7 0) (aH4 (G7 1) bS0))) (tt:=aN0) (te:=tOp (rI0 λi j=>.int (i+j)) (D7 0) (D7 1)) dR8 (cT7 false (ds:=((B8 m U).map (hI H1)).map PyData.int) (es:=((B8 m U).map (hI H2)).map PyData.int) (A1 v7 (A1 (A6 (i:=9) rfl) A5)) (by rw[Aa3,Aa3,Aa3,Aa3])) (by rw[aR0 (by rw[Aa3,Aa3,Aa3,Aa3]),Aa3,Aa3];unfold PySem.sizeLine;lia) (λd hd=>by
  obtain⟨j,hj⟩:=List.mem_iff_getElem?.mp hd;obtain⟨d1,d2,e1,e2,rfl⟩:=aV9 hj;obtain⟨x,_,rfl⟩:=Aa8.mp (Aw e1);obtain⟨y,_,rfl⟩:=Aa8.mp (Aw e2);exact⟨_,aD1 (ds:=[.int x,.int y]) (F6 B7 (F6 B7 Y4)),y0,K5 (g:=λi j=>i+j) v0 v1⟩)
 rw[bO3]at c3;have n3:=bA8 (K:=K) (m:=false) (C8 (pre:=aH3) (X:=E0) (d:=tI ((B8 m U).map (hI λp q=>H1 p q+H2 p q))) (A1 v2 (A1 v4 (A1 v6 A5))) ⟨m,U,tr,one,R,_,dw,p1.trans p2,rfl,rfl⟩) (Q0 (A1 (EF.e' c3) A5) (O0 _)) (FitN.fit (M8 _)) (FitN.fit (M8 _))
 rw[show PyData.eqv (tI ((B8 m U).map (hI λp q=>H1 p q+H2 p q))) (.tuple (((B8 m U).map (hI λp q=>H1 p q+H2 p q)).map PyData.int))=true by rw[show PyData.tuple (((B8 m U).map (hI λp q=>H1 p q+H2 p q)).map PyData.int)=tI ((B8 m U).map (hI λp q=>H1 p q+H2 p q)) from rfl,LV.Y8];exact Bc rfl]at n3
 refine A9 (X4 (b := !true) (C5 n3) (λh=>by cases h) (λh=>J5 ?_))
 have c4:=M4 (K:=K) (m:=true) (ρ:=[.val (lI ns),.val (.int (m:Int)),.val (.tuple (U.map tN)),.val (.tuple (tr.map tN)),.val (.tuple (one.map pD)),.val (.tuple (N.map pD)),.val (.tuple (R.map pD)),.val (tI ((B8 m U).map (hI H1))),.val (tI ((B8 m U).map (hI λp q => - H1 p q))),.val (tI ((B8 m U).map (hI H2)))]) (n:=1) (is:=[]) (g:=G7 0) (tt:=aN0) (te:=tC (.int 0)) fZe (aC7 (ds:=((B8 m U).map (hI H1)).map PyData.int) v7) (by rw[Aa3,Aa3];unfold PySem.sizeLine;lia) (λd hd=>⟨_,B7,y0,A7⟩)
 rw[cC1]at c4;have n4:=dS2 (K:=K) (m:=true) (C8 (pre:=aH3) (X:=E0) (d:=tI ((B8 m U).map (hI λ_ _=>0))) (A1 v2 (A1 v6 (A1 v6 A5))) ⟨m,U,tr,R,R,_,dw,TT.Po.refl,rfl,rfl⟩) (Q0 (A1 (EF.e' c4) A5) (O0 _)) (FitN.fit (M8 _)) (FitN.fit (M8 _))
 rw[show PyData.eqv (tI ((B8 m U).map (hI λ_ _=>0))) (.tuple (((B8 m U).map (hI λ_ _=>0)).map PyData.int))=true by rw[show PyData.tuple (((B8 m U).map (hI λ_ _=>0)).map PyData.int)=tI ((B8 m U).map (hI λ_ _=>0)) from rfl,LV.Y8];exact Bc rfl]at n4
 exact L6 n4 rfl
end
theorem fin_of {l:PySem.W.OpenLaw}{w:World}{fa f:Addr}{K:Frag}{mg:Str->Option Value}(z:mg "law" = some (.ref fa))(h:∃a:Ad,Tx K mg a/\a.bX2=f/\∀(s:Shared) (v:Value),BindsTo s a.bO1 ⟨[v],[]⟩ [("_law_script",v)])
  : ∃fd:FuncData,(∀(s:Shared) (v:Value),BindsTo s fd ⟨[v],[]⟩ [("_law_script",v)])/\∀base:Heap,K.In base->base.Ns mainGlobals mg->D2 l.prog w K mg base CX0 7 fa fd ["_law_script"] (cC6 K):=by
 obtain⟨a,T,X,Y⟩:=h;have e:=z.symm.trans T.dC5.m;cases e;exact⟨a.bO1,Y,λbase _ _=>dM5 T⟩
theorem walk {l:PySem.W.OpenLaw}{q:Program}{loose:List Str}{XP:(Str->Option Value)->Heap->Prop}{YP:World->Heap->Prop}{d:DefRec}{K:Params->Frag}(U:l.most=some 63)(e:d.params.defaults=[])
  (Y:∀(w:World) (h:Heap),YP w h->(K w.params).In h)
  (F:∀(w:World) (mg:Str->Option Value) (fa:Addr) (h:Heap),(K w.params).In h->h.Ns mainGlobals mg->mg d.name=some (.ref fa) ->
   ∃fd:FuncData,(∀(s:Shared) (u:Value),BindsTo s fd ⟨[u],[]⟩ [("_law_script",u)])/\∀base:Heap,(K w.params).In base->base.Ns mainGlobals mg->D2 l.prog w (K w.params) mg base CX0 7 fa fd ["_law_script"] (cC6 (K w.params))) :
  PySem.W.WalkO q loose XP YP l.row.toRowW d [] (λf vs=>PySem.call f vs):=
 L2.cX0 (n:=63) (k:=7) (x := "_law_script") (CX:=λ_=>CX0) (sp:=λw=>cC6 (K w.params)) U (by decide) e ⟨rfl,by decide,by decide⟩ Y F (λ_ _ a J X _ m=>⟨a,J,rfl,m,X,λ_=>rfl⟩) λ_ _ _ _ _ z=>z
end K34
namespace PySem.W.Fast
def tw12482504931705427549:=0
def tw15454447960990757843:=0
def tw13394665410273190008:=0
def tw17653956084331350543:=0
def tw13660886452901333951:=0
def tw8420546675789777673:=0
def tw16478222673040794247:=0
def tw12619566002956385444:=0
def tw1867237634300721427:=0
def tw7808614339145336786:=0
def tw10620838998734039617:=0
def tw17663926888637973212:=0
def tw6747052929166278000:=0
def tw17213259175095944618:=0
def tw12713246356961096021:=0
def tw13991043392140115901:=0
def tw13553530719538427945:=0
def tw13910854092431778014:=0
def tw4688924006862292790:=0
def tw2735020828645160653:=0
def tw5809490147392789064:=0
def tw2326155111442899752:=0
def tw12200362424083218279:=0
def tw17701058638536447563:=0
def tw12026547995395277979:=0
def tw15238822355269416946:=0
def tw17489308909829416625:=0
def tw5783590820023511497:=0
def tw14773754024416227472:=0
def tw1784245496255039214:=0
def tw6642039114355797958:=0
def tw5130938877943975976:=0
def tw3678772423964471751:=0
def tw6848590110127200104:=0
def tw5641571647103503488:=0
def tw8887502560184157993:=0
def tw6347124082562088556:=0
def tw2912396853555682705:=0
def tw9070144525773831518:=0
def tw11316089548109120211:=0
def tw16878074342277777297:=0
def tw1628594332534299990:=0
def tw4179993640561011609:=0
def tw13537208922437467291:=0
def tw6833755281507783809:=0
def tw18097496465112640770:=0
def tw8737786851480277049:=0
def tw4396000323697195021:=0
def tw899361758995234919:=0
def tw1144084414939831067:=0
def tw17854252375828449331:=0
def tw4803767885889358929:=0
def tw16253579113488607944:=0
def tw9959194599586235332:=0
def tw8414547770246517637:=0
def tw5973268393499955841:=0
def tw3756468144317726495:=0
def tw5450751163327237093:=0
def tw9328610311198098110:=0
def tw12116740177714016244:=0
def tw8989720202035865144:=0
def tw14909061900721800831:=0
def tw14045300931019107981:=0
def tw8573009068822776026:=0
def tw10810109614963220828:=0
def tw9899501792226585285:=0
def tw17132870676901806449:=0
def tw9235940798368803571:=0
def tw13653411545825589327:=0
def tw402619430090270934:=0
def tw6740683369922942837:=0
def tw9622719372242680342:=0
def tw15859874868699388594:=0
def tw2920849643788320056:=0
def tw1318724460088601937:=0
def tw14256055713867041140:=0
def tw39823456268782261:=0
def tw1172941196294848462:=0
def tw3086666715296937145:=0
def tw8970601869712931054:=0
def tw7734053531156787168:=0
def tw7067076452797028145:=0
def tw14985330665294506179:=0
def tw8791555691280305751:=0
def tw14762168711309494473:=0
def tw10212940936560508499:=0
def tw14774453957909202496:=0
def tw11030952314752625622:=0
def tw15406596550697478797:=0
def tw15828215078905406888:=0
def tw4142761720943539736:=0
def tw14819806099160332422:=0
def tw7365550259014478188:=0
def tw1909134181741151066:=0
def tw22134683290227228:=0
def tw17175545159882134659:=0
def tw339488295560026363:=0
def tw14745692305630520066:=0
def tw7195154037551321526:=0
def tw11183236109027906775:=0
def tw2241246633845054199:=0
def tw1964660401352686994:=0
def tw12623737190241637996:=0
def tw2328254801645274696:=0
def tw12756495850765917756:=0
def tw4675397627848939209:=0
def tw3466344014411024281:=0
def tw5688310372940692923:=0
def tw10127592151846382940:=0
def tw2779695123157918918:=0
def tw8687076893271887687:=0
def tw8296092346403220479:=0
def tw17162659669841109179:=0
def tw10601925501336551392:=0
def tw2168905390666018684:=0
def tw18070635804241703055:=0
def tw12016864668289156272:=0
def tw717018572672043797:=0
def tw2611324495524563479:=0
def tw16671280769718837565:=0
end PySem.W.Fast
open PySem PySem.W PyProof.Rows
set_option maxRecDepth 100000 in
set_option maxHeartbeats 0 in
theorem PySem.Challenge.cw_threetrees_k34_heights_holds : PySem.Challenge.rw_threetrees_k34_heights.Holds := by
 w_on;o_law;k_head;(case hw=>w_witness2)
 k_fill
 refine K34.walk (l:=PySem.Challenge.rw_threetrees_k34_heights) rfl rfl (λw h Y=>PySem.W.kIn_of Y) ?F
 case F=>
  intro w mg fa h KX G hmg;refine' K34.fin_of hmg (K34.tx_mk KX G _ _ _ _ _ _ _ _ _ _ _ _ _ _ _ _ _ _ _ _ _ _ _ _ _ _ _ _ _ _ _ _ _ _ _ _ _ _ _ _ _ _ _ _ _ _ _ _)
  any_goals first | refine'⟨_,L2.dI5 _ _ _⟩ | skip
  any_goals first | k_is | k_exc
