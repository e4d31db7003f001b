
import PyProof.Rows.All
import Wide.All
import OpenK.AllK
import Wide.FinOn
import Lean
import PyProof.EqAt
import PyProof.EqKinds
import PyProof.TupleCall
import KE.KDictList
import PyProof.Rows.TupDisplay
import PyProof.ZipIter
import PySem.Challenge.RW_threetrees_k09_deeds_refused
set_option genSizeOfSpec false
set_option linter.all false
set_option Elab.async false
set_option maxRecDepth 100000
set_option linter.defProp false
abbrev AA:=List (List Nat)
abbrev AB:=List (List Int)
abbrev AC:=List Nat
abbrev AD:=List Int
abbrev AF:=List PySem.PyData
abbrev AG:=List PySem.Value
abbrev AH:=List PySem.Str
abbrev AJ:=Array PySem.Value
abbrev AK:=Option PySem.Addr
abbrev AL:=List PySem.Addr
abbrev AM:=List PySem.Expr
def Aa:=@PySem.wpAny_bind
def Ab:=@if_neg
def Ac:=@if_pos
def Ae:=@PySem.wpAny_pure
def Af:=@PySem.F.type_list_append
def Ag:=@PySem.F.slot_list_append
def Ah:=@Bool.false_ne_true
def Ai:=@List.getElem?_set_self
def Aj:=@of_decide_eq_true
def Ak:=@decide_eq_true_eq
def Al:=@List.mem_cons_self
def Am:=@PySem.boot_len
def An:=@List.filterMap_cons
def Ao:=@PySem.PassesOwn.never
def Ap:=@Bool.and_eq_true
def Aq:=@List.find?_cons
def Ar:=@of_decide_eq_false
def As:=@PySem.isSubtype_type
def Au:=@PySem.W.mg_of
def Av:=@List.length_cons
def Aw:=@decide_eq_false
def Ax:=@List.cons.injEq
def Ay:=@PySem.W.mg_none_of
def Az:=@PySem.call_isinstance
def Ba:=@List.append_nil
def Bb:=@List.mem_of_getElem?
def Bc:=@decide_eq_true
def Bd:=@Nat.le_trans
def Be:=@List.mem_of_mem_take
def Bf:=@List.mem_filter
def Bh:=@List.range_succ
def Bi:=@PyProof.Rows.slot_tuple_getitem
def Bj:=@Array.length_toList
def Bk:=@List.map_congr_left
def Bl:=@List.replicate_succ
def Bm:=@List.length_drop
def Bo:=@List.mem_append_left
def Bp:=@List.headD_cons
def Bq:=@Int.emod_nonneg
def Br:=@List.take_succ_eq_append_getElem
def Bs:=@PyProof.Rows.callWith_type1
def Bu:=@List.flatten_cons
def Bv:=@decide_eq_false_iff_not
def Bw:=@List.getElem?_append_right
def Bx:=@Option.map_eq_some_iff
def By:=@List.map_nil
def Bz:=@PySem.Heap.get?_update_other
def Ca:=@List.getElem?_append_left
def Cb:=@List.drop_eq_getElem_cons
def Cc:=@List.idxOf_lt_length_iff
def Cd:=@Int.emod_lt_of_pos
def Ce:=@PySem.wpAny_holding
def Cf:=@PySem.Heap.size_push
def Cg:=@Array.getElem?_eq_getElem
def Ci:=@PySem.Heap.get?_update_self
def Cj:=@PySem.wpAny_newObj_type
def Ck:=@List.getElem?_replicate
def Cm:=@Bool.eq_iff_iff
def Cn:=@List.length_pos_of_mem
def Co:=@Nat.zero_le
def Cp:=@Bool.false_eq_true
def Cq:=@List.perm_append_comm
def Cr:=@List.mem_of_mem_drop
def Cs:=@List.Pairwise.imp_of_mem
def Ct:=@PySem.wpAny_callSpecial?_slot
def Cu:=@List.filter_append
def Cv:=@Nat.le_of_lt
def Cw:=@List.length_replicate
def Cz:=@List.length_range
def Da:=@PySem.wpAny_call_entry
def Dc:=@List.take_length
def Dd:=@List.length_pos_iff
def De:=@List.length_erase_of_mem
def Df:=@List.filterMap_map
def Dg:=@PySem.sizeLine_eq
def Dh:=@List.take_of_length_le
def Di:=@List.nodup_range
def Dj:=@List.length_set
def Dk:=@Prod.mk.injEq
def Dl:=@List.getElem_mem
def Dm:=@Nat.lt_or_ge
def Dn:=@Bool.or_eq_true
def Dq:=@List.getElem?_take
def Dr:=@List.zip_cons_cons
def Ds:=@Nat.lt_succ_of_lt
def Dt:=@decide_eq_decide
def Dv:=@List.mem_reverse
def Dy:=@List.drop_append
abbrev Dz:=PySem.Value->PySem.Shared->Prop
abbrev Eb:=List (PySem.Addr×PySem.Obj)
open PySem.W (Frag)
def Aa0:=@List.mem_append
def Aa1:=@List.mem_cons
def Aa2:=@List.getElem?_eq_getElem
def Aa3:=@List.length_map
def Aa4:=@List.nodup_append
def Aa5:=@List.nodup_cons
def Aa6:=@PySem.Heap.get?_push_of_some
def Aa7:=@Nat.le_refl
def Aa8:=@List.mem_map
def Aa9:=@List.getElem?_map
def Ab0:=@List.getElem?_eq_some_iff
def Ab1:=@PySem.F.plainAttrs_list
def Ab2:=@List.size_toArray
def Ab3:=@PySem.Heap.lt_size
def Ab4:=@Option.some.inj
def Ab5:=@List.mem_range
def Ab6:=@List.cons_append
def Ab7:=@List.length_append
def Ab8:=@Nat.lt_of_lt_of_le
def Ab9:=@Nat.ne_of_lt
def Ac0:=@List.getD_eq_getElem?_getD
def Ac1:=@List.mem_append_right
def Ac2:=@List.not_mem_nil
def Ac3:=@PySem.Heap.get?_push_size
def Ac4:=@List.idxOf_lt_length_of_mem
def Ac5:=@List.eq_nil_or_concat
def Ac6:=@List.nodup_iff_pairwise_ne
def Ac7:=@List.map_cons
def Ac8:=@Int.toNat_natCast
def Ac9:=@List.all_eq_true
def Ad0:=@List.getElem?_set_ne
def Ad1:=@List.length_take
def Ad2:=@List.map_append
def Ad3:=@List.take_append_drop
def Ad4:=@List.mem_cons_of_mem
def Ad5:=@List.append_of_mem
def Ad6:=@List.getElem?_eq_none
def Ad7:=@List.append_assoc
def Ad8:=@List.mem_singleton
def Ad9:=@Nat.lt_irrefl
def Ae0:=@List.pairwise_map
def Ae1:=@List.length_reverse
def Ae2:=@List.map_map
namespace L2
open PySem PySem.Spec PyProof.Rows
abbrev Key:=Sum Int Str
def bV4:Key->Value->Bool
 | .inl k,v=>Value.isInt k v
 | .inr x,v=>Value.isStrOf x v
def eW8 (w:World):Key->Int
 | .inl k=>hashInt k
 | .inr x=>hashStr w x
theorem P1:∀{k:Key} {v:Value},bV4 k v=true->(∃i t,k=Sum.inl i/\v=Value.int i t)\/(∃x t,k=Sum.inr x/\v=Value.str x t)
 | .inl i,v,h=>by
  obtain⟨t,e⟩:=Value.isInt_shape (k:=i) (v:=v) h;exact .inl ⟨i,t,rfl,e⟩
 | .inr x,v,h=>by
  obtain⟨t,e⟩:=Value.isStrOf_shape (x:=x) (v:=v) h;exact .inr ⟨x,t,rfl,e⟩
theorem dD5 (i:Int)(t:Tok):bV4 (.inl i) (.int i t)=true:=by simp[bV4,Value.isInt]
theorem dB4 (x:Str)(t:Tok):bV4 (.inr x) (.str x t)=true:=by simp[bV4,Value.isStrOf]
theorem eJ7 (a b:Int):decide ((Sum.inl a:Key)=Sum.inl b)=(a==b):=by
 by_cases e:a=b
 .subst e;simp
 .have h:¬(Sum.inl a:Key)=Sum.inl b:=λq=>e (Sum.inl.inj q)
  rw[Aw h];exact(beq_eq_false_iff_ne.mpr e).symm
theorem eK4 (a b:Str):decide ((Sum.inr a:Key)=Sum.inr b)=decide (a=b):=by
 by_cases e:a=b
 .subst e;simp
 .have h:¬(Sum.inr a:Key)=Sum.inr b:=λq=>e (Sum.inr.inj q)
  rw[Aw h,Aw e]
theorem eM0 (a:Int)(b:Str):decide ((Sum.inl a:Key)=Sum.inr b)=false:=Aw (λq=>nomatch q)
theorem eN0 (a:Str)(b:Int):decide ((Sum.inr a:Key)=Sum.inl b)=false:=Aw (λq=>nomatch q)
def P7 (prog:Program)(w:World):PySem.KeyKind prog w Key where
 is:=bV4
 hash:=eW8 w
 inj:=λv a b ha hb=>by
  rcases P1 ha with⟨i,t,rfl,rfl⟩ | ⟨x,t,rfl,rfl⟩
  .rcases P1 hb with⟨j,u,rfl,e⟩ | ⟨y,u,rfl,e⟩
   .injection e with e1 _;rw[e1]
   .exact nomatch e
  .rcases P1 hb with⟨j,u,rfl,e⟩ | ⟨y,u,rfl,e⟩
   .exact nomatch e
   .injection e with e1 _;rw[e1]
 byValue:=λk v h=>by
  rcases P1 h with⟨i,t,rfl,rfl⟩ | ⟨x,t,rfl,rfl⟩ <;> rfl
 pyHash:=λhv h=>by
  rcases P1 hv with⟨i,t,rfl,rfl⟩ | ⟨x,t,rfl,rfl⟩
  .exact wpAny_pyHash_int h
  .exact wpAny_pyHash_str h
 eqBool:=λhu hv h=>by
  rcases P1 hu with⟨i,t,rfl,rfl⟩ | ⟨x,t,rfl,rfl⟩
  .rcases P1 hv with⟨j,u,rfl,rfl⟩ | ⟨y,u,rfl,rfl⟩
   .rw[eJ7]at h;exact wpAny_eqBool_int h
   .rw[eM0]at h;exact SeqAt.EqAt.int_str i t y u _ _ _ _ h
  .rcases P1 hv with⟨j,u,rfl,rfl⟩ | ⟨y,u,rfl,rfl⟩
   .rw[eN0]at h;exact SeqAt.EqAt.str_int x t j u _ _ _ _ h
   .rw[eK4]at h;exact wpAny_eqBool_str h
 «strs» := λk x t v h=>by
  rcases P1 h with⟨i,u,rfl,e⟩ | ⟨y,u,rfl,e⟩
  .exact nomatch e
  .injection e with e1 _
   subst e1;cases v <;> rfl
theorem cE9 (prog:Program)(w:World)(i:Int)(t:Tok):(P7 prog w).is (.inl i) (.int i t)=true:=dD5 i t
theorem cK3 (prog:Program)(w:World)(x:Str)(t:Tok):(P7 prog w).is (.inr x) (.str x t)=true:=dB4 x t
inductive V where
 | non | bl (b:Bool) | int (i:Int) | str (x:Str) | byt (b:Array UInt8) | flt (b:UInt64) | ref (a:Addr) | ty (n:String)
 deriving DecidableEq
def RelV:V->Value->Prop
 | .non,u=>u=Value.none
 | .bl b,u=>u=Value.bool b
 | .int i,u=>∃t,u=Value.int i t
 | .str x,u=>∃t,u=Value.str x t
 | .byt b,u=>∃t,u=Value.bytes b t
 | .flt b,u=>∃t,u=Value.float b t
 | .ref a,u=>u=Value.ref a
 | .ty n,u=>u=Value.type n
abbrev Vals:List V->AG->Prop:=Paired RelV
theorem Vals.length {xs:List V}{us:AG}(r:Vals xs us):xs.length=us.length:=Paired.length r
theorem Vals.get:∀{xs:List V} {us:AG} {i:Nat} {x:V},Vals xs us->xs[i]? = some x->∃u,us[i]? = some u/\RelV x u
 | _,_,_,_,.nil,e=>by simp at e
 | _,_,0,_,.cons r _,e=>by simp at e;subst e;exact⟨_,rfl,r⟩
 | _,_,i+1,x,.cons _ t,e=>by
  obtain⟨u,h1,h2⟩:=Vals.get (i:=i) (x:=x) t (by simpa using e)
  exact⟨u,by simpa using h1,h2⟩
theorem Vals.set (r:RelV x u):∀{xs:List V} {us:AG} (i:Nat),Vals xs us->Vals (xs.set i x) (us.set i u)
 | _,_,_,.nil=>.nil
 | _,_,0,.cons _ t=>.cons r t
 | _,_,i+1,.cons q t=>.cons q (Vals.set r i t)
theorem Vals.append:∀{xs ys:List V} {us ws:AG},Vals xs us->Vals ys ws->Vals (xs++ys) (us++ws)
 | _,_,_,_,.nil,s=>s
 | _,_,_,_,.cons r t,s=>.cons r (Vals.append t s)
theorem Vals.take:∀{xs:List V} {us:AG} (n:Nat),Vals xs us->Vals (xs.take n) (us.take n)
 | _,_,0,_=>.nil
 | _,_,_+1,.nil=>.nil
 | _,_,n+1,.cons r t=>.cons r (Vals.take n t)
theorem Vals.drop:∀{xs:List V} {us:AG} (n:Nat),Vals xs us->Vals (xs.drop n) (us.drop n)
 | _,_,0,r=>r
 | _,_,_+1,.nil=>.nil
 | _,_,n+1,.cons _ t=>Vals.drop n t
def RelO:Option V->Option Value->Prop
 | some v,some u=>RelV v u
 | none,none=>True
 | _,_=>False
def KV {κ:Type}:List (κ×V)->List (κ×Value)->Prop:=Paired λ(p:κ×V) (q:κ×Value)=>p.1=q.1/\RelV p.2 q.2
def kV:Key->V
 | .inl i=>.int i
 | .inr x=>.str x
inductive HO where
 /-- a list -/
 | lst (xs:List V)
 /-- a tuple (never changes) -/
 | tup (xs:List V)
 /-- a dict whose keys are ints and texts;one whose keys are tuples of ints and texts (the empty one is both) -/
 | dK (kvs:List (Key×V)) | dT (kvs:List (List Key×V))
 /-- a set of ints: its members,its size -/
 | set (S:Int->Bool) (n:Nat)
 /-- an instance of the class at C,its dict at dx,its attributes -/
 | ins (C dx:Addr) (fs:List (Str×V))
 /-- the dict of the instance at x -/
 | own (x:Addr)
 /-- the dict of an exception -/
 | xd (fs:List (Str×V))
 /-- a bound method,f of x -/
 | met (f x:Addr)
 /-- a range object lo,lo+1,.. below hi -/
 | rng (lo hi:Int)
 /-- a thing that is known to the object (the script;a dict while a loop walks it): read,never written while it is so -/
 | frz (o:Obj) (u:HO)
 /-- a code object's table -/
 | tbl (ps:AJ)
 /-- any other thing,by what is true of its one object (a def of one's own: SetO a S n:=HO.ext λh=>..) -/
 | ext (φ:Heap->Prop)
abbrev Hp:=Addr->Option HO
def upd (H:Hp)(a:Addr)(o:HO):Hp:=λb=>if b=a then some o else H b
theorem C4:upd H a o a=some o:=by unfold upd;rw[Ac rfl]
theorem B6 (h:b≠a):upd H a o b=H b:=by unfold upd;rw[Ab h]
theorem bK3:upd (upd H a o) a u=upd H a u:=by
 funext b;unfold upd;split <;> rfl
theorem G7 {H:Hp}{a b:Addr}{o:HO}(h:H a=some o)(h':H b=none):a≠b:=by
 intro e;subst e;rw[h]at h';cases h'
def Tup0 (h:Heap)(a:Addr)(items:AJ):Prop:=∃o,h.get? a=some o/\o.cls=.type "tuple" /\ (∃n,o.data=.seq items n)/\o.dict=none
theorem Tup0.tup {h:Heap}{a:Addr}{items:AJ}(p:Tup0 h a items):IsTup h a items:=p.imp λ_ q=>⟨q.1,q.2.1,q.2.2.1⟩
theorem Tup0.nw (h:Heap)(items:AJ)(n:Nat):Tup0 (h.push {cls:=.type "tuple",data:=.seq items n}) h.objs.size items:=⟨_,Ac3 _ rfl,rfl,⟨n,rfl⟩,rfl⟩
section
variable (P:Program)(w:World)
def ObjOk (H:Hp)(h:Heap)(a:Addr):HO->Prop
 | .lst xs=>xs.length<=sizeLine/\∃(its:AG) (n:Nat),Vals xs its/\h.get? a=some {cls:=.type "list",data:=.seq its.toArray n}
 | .tup xs=>xs.length<=sizeLine/\∃its:AG,Vals xs its/\Tup0 h a its.toArray
 | .dK kvs=>kvs.length<=sizeLine/\(a==sysModules)=false/\∃vs,KV kvs vs/\h.DictOf (P7 P w) a vs
 | .dT kvs=>kvs.length<=sizeLine/\(a==sysModules)=false/\∃xs:List (List Key×Addr×Value),
   Paired (λ(p:List Key×V) (q:List Key×Addr×Value)=>p.1=q.1/\H q.2.1=some (.tup (p.1.map kV))/\RelV p.2 q.2.2) kvs xs /\
   ∃o es ep,h.get? a=some o/\o.ExactDict/\o.data=.dict es ep/\es.toList=xs.map (entryOfKey (tupleKind (P7 P w)))/\(xs.map (·.1)).Nodup
 | .set S n=>h.SetOf (intKind P w) a S n
 | .ins C dx fs=>H dx=some (.own a)/\fs.length<=1000/\dx≠a/\h.get? a=some (PySem.W.instObj C dx) /\
   ∃mA,h.Ns1 dx mA/\(∀f,RelO (fs.lookup f) (mA f))/\PySem.Within mA (fs.map (·.1))
 | .own _=>∃o,h.get? a=some o
 | .xd fs=>∃mA,h.Ns1 a mA/\∀f,RelO (fs.lookup f) (mA f)
 | .rng lo hi=>∃t u v,h.get? a=some {cls:=.type "range",data:=.fields #[.int lo t,.int hi u,.int 1 v]}
 | .frz o u=>h.get? a=some o/\ObjOk H h a u
 | .tbl ps=>h.get? a=some {cls:=.none,data:=.fields ps}
 | .met f x=>h.get? a=some (PySem.W.methodObj (.ref f) (.ref x))
 | .ext φ => φ h/\(∃o,h.get? a=some o)/\∀h1 h2:Heap,φ h1->(∀o,h1.get? a=some o->h2.get? a=some o)->φ h2
def HOk (H:Hp)(h:Heap):Prop:=∀a o,H a=some o->ObjOk P w H h a o
end
section
theorem ObjOk.lt (x:ObjOk P w H h a o):a<h.objs.size:=by
 cases o with
 | lst xs=>obtain⟨_,_,_,_,e⟩:=x;exact Ab3 e
 | tup xs=>obtain⟨_,_,_,p⟩:=x;exact p.tup.lt
 | dK kvs=>obtain⟨_,_,_,_,o,_,_,e,_⟩:=x;exact Ab3 e
 | dT kvs=>obtain⟨_,_,_,_,o,_,_,e,_⟩:=x;exact Ab3 e
 | set S n=>obtain⟨o,_,_,_,e,_⟩:=x;exact Ab3 e
 | ins C dx fs=>obtain⟨_,_,_,e,_⟩:=x;exact Ab3 e
 | own y=>obtain⟨_,e⟩:=x;exact Ab3 e
 | xd fs=>obtain⟨_,⟨_,_,_,e,_⟩,_⟩:=x;exact Ab3 e
 | rng lo hi=>obtain⟨_,_,_,e⟩:=x;exact Ab3 e
 | frz r u=>obtain⟨e,_⟩:=x;exact Ab3 e
 | tbl ps=>exact Ab3 (show h.get? a=some _ from x)
 | met f y=>exact Ab3 (show h.get? a=some _ from x)
 | ext φ=>obtain⟨_,⟨_,e⟩,_⟩:=x;exact Ab3 e
theorem Paired.mapP:∀{l₁:List α} {l₂:List β},Paired F l₁ l₂->(∀a b,F a b->G a b)->Paired G l₁ l₂
 | _,_,.nil,_=>.nil
 | _,_,.cons r t,f=>.cons (f _ _ r) (Paired.mapP t f)
theorem ObjOk.stay (x:ObjOk P w H h a o)(k:∀b u,(b=a\/H b=some (.own a))->h.get? b=some u->h'.get? b=some u)
  (ho:∀b,H b=some (.own a)->H' b=some (.own a)) (N:∀b xs,H b=some (.tup xs)->H' b=some (.tup xs)):ObjOk P w H' h' a o:=by
 induction o with
 | lst xs=>obtain⟨z,its,n,r,e⟩:=x;exact⟨z,its,n,r,k _ _ (.inl rfl) e⟩
 | tup xs=>obtain⟨z,its,r,j,e,c⟩:=x;exact⟨z,its,r,j,k _ _ (.inl rfl) e,c⟩
 | dK kvs=>obtain⟨z,y,vs,r,j,Y,s,e,c⟩:=x;exact⟨z,y,vs,r,j,Y,s,k _ _ (.inl rfl) e,c⟩
 | dT kvs=>
  obtain⟨z,y,xs,r,j,Y,s,e,c⟩:=x;exact⟨z,y,xs,Paired.mapP r λp q z=>⟨z.1,N _ _ z.2.1,z.2.2⟩,j,Y,s,k _ _ (.inl rfl) e,c⟩
 | set S n=>obtain⟨j,Y,s,t,e,c⟩:=x;exact⟨j,Y,s,t,k _ _ (.inl rfl) e,c⟩
 | ins C dx fs=>
  obtain⟨d,z,ne,e,X,⟨U,Y,s,M,c⟩,r⟩:=x;exact⟨ho _ d,z,ne,k _ _ (.inl rfl) e,X,⟨U,Y,s,k _ _ (.inr d) M,c⟩,r⟩
 | own y=>obtain⟨j,e⟩:=x;exact⟨j,k _ _ (.inl rfl) e⟩
 | xd fs=>obtain⟨X,⟨U,Y,s,e,c⟩,r⟩:=x;exact⟨X,⟨U,Y,s,k _ _ (.inl rfl) e,c⟩,r⟩
 | rng lo hi=>obtain⟨t,u,v,e⟩:=x;exact⟨t,u,v,k _ _ (.inl rfl) e⟩
 | frz j u R=>obtain⟨e,q⟩:=x;exact⟨k _ _ (.inl rfl) e,R q⟩
 | tbl ps=>
  have e:h.get? a=some {cls:=.none,data:=.fields ps}:=x
  show h'.get? a=some {cls:=.none,data:=.fields ps}
  exact k a _ (.inl rfl) e
 | met f y=>
  have e:h.get? a=some (PySem.W.methodObj (.ref f) (.ref y)):=x
  show h'.get? a=some (PySem.W.methodObj (.ref f) (.ref y))
  exact k a _ (.inl rfl) e
 | ext φ=>obtain⟨p,⟨o,e⟩,J⟩:=x;exact⟨J _ _ p λo q=>k _ _ (.inl rfl) q,⟨o,k _ _ (.inl rfl) e⟩,J⟩
theorem HOk.lt (x:HOk P w H h)(e:H a=some o):a<h.objs.size:=(x a o e).lt
theorem HOk.fresh (x:HOk P w H h)(e:h.objs.size<=a):H a=none:=by
 cases q:H a with
 | none=>rfl
 | some u=>exact absurd (Ab8 (x.lt q) e) (Ad9 _)
theorem HOk.kept (x:HOk P w H h)(k:∀b u,h.get? b=some u->h'.get? b=some u):HOk P w H h':=λa o e=>
 (x a o e).stay (λb u _ q=>k b u q) (λ_ q=>q) λ_ _ q=>q
theorem HOk.laid (x:HOk P w H h)(k:∀b u,h.get? b=some u->h'.get? b=some u)(hp:h.objs.size<=a)(r:ObjOk P w (upd H a o) h' a o):HOk P w (upd H a o) h':=λb u e=>by
 have s:=x.fresh hp
 by_cases j:b=a
 .subst j;rw[C4]at e;cases e;exact r
 .rw[B6 j]at e;exact(x b u e).stay (λc v _ q=>k c v q) (λc q=>by rw[B6 (G7 q s)];exact q) λc xs q=>by rw[B6 (G7 q s)];exact q
end
def Rd (H:Hp)(a:Addr)(u:HO):Prop:=H a=some u\/∃o,H a=some (.frz o u)
theorem Rd.ok {P:Program}{w:World}{H:Hp}{h:Heap}{a:Addr}{u:HO}(r:Rd H a u)(x:HOk P w H h):ObjOk P w H h a u:=by
 rcases r with r | ⟨o,r⟩
 .exact x a u r
 .obtain⟨_,q⟩:=x a _ r;exact q
def Mut:Option HO->Prop
 | some (.lst _)=>True
 | some (.dK _)=>True
 | some (.dT _)=>True
 | some (.set _ _)=>True
 | some (.ins _ _ _)=>True
 | some (.ext _)=>True
 | _=>False
section
theorem HOk.write (ok:HOk P w H h)(U:Mut (H x))(N:e=x\/H e=some (.own x))(k:∀b u,b≠e->h.get? b=some u->h'.get? b=some u)(J:∃u,h'.get? e=some u)
  (M:ObjOk P w (upd H x o') h' x o'):HOk P w (upd H x o') h':=λb u q=>by
 have s:∀c y,H c=some (.own y)->c≠x:=λc y r z=>by subst z;rw[r]at U;exact U
 have Y:∀c xs,H c=some (.tup xs)->c≠x:=λc xs r z=>by subst z;rw[r]at U;exact U
 by_cases X:b=x
 .subst X;rw[C4]at q;cases q;exact M
 .rw[B6 X]at q;by_cases j:b=e
  .have R:H b=some (.own x):=by
    rcases N with z | z
    .exact absurd (j.trans z) X
    .rw[j];exact z
   rw[q]at R;cases R;obtain⟨v,Q⟩:=J;exact⟨v,by rw[j];exact Q⟩
  .refine(ok b u q).stay (λc v hc r=>k c v ?_ r) (λc r=>by rw[B6 (s c b r)];exact r) λc xs r=>by rw[B6 (Y c xs r)];exact r
   rcases hc with rfl | hc
   .exact j
   .rintro rfl;rcases N with z | z
    .exact s c b hc z
    .rw[hc]at z;cases z;exact X rfl
end
structure Un (fs ex:AL)(H H':Hp)(h h':Heap):Prop where
 keep:∀b o,h.get? b=some o->H b=none->b∉fs->b∉ex->h'.get? b=some o
 slot:∀b o,h.get? b=some o->H b=none->b∈fs->b∉ex->∃sl,h'.get? b=some {o with slots:=sl}
 free:∀b o,h.get? b=some o->H b=none->b∉ex->H' b=none
 there:∀b o,h.get? b=some o->b∉ex->∃o',h'.get? b=some o'
 tups:∀b xs,H b=some (.tup xs)->H' b=some (.tup xs)
 frzs:∀b o u,H b=some (.frz o u)->H' b=some (.frz o u)
 tbls:∀b ps,H b=some (.tbl ps)->∃more,H' b=some (.tbl (ps++more))
section
theorem Un.any (u:Un fs ex H H1 h h1){b:Addr}{ob:Obj}(q:h.get? b=some ob)(n:H b=none)(w:b∉ex):∃sl,h1.get? b=some {ob with slots:=sl}:=by
 by_cases e:b∈fs
 .exact u.slot b ob q n e w
 .exact⟨ob.slots,u.keep b ob q n e w⟩
theorem Un.kept (k:∀b u,h.get? b=some u->h'.get? b=some u):Un fs ex H H h h':=
 ⟨λb e q _ _ _=>k b e q,λb e q _ _ _=>⟨e.slots,k b e q⟩,λ_ _ _ n _=>n,λb e q _=>⟨e,k b e q⟩,λ_ _ q=>q,λ_ _ _ q=>q,λ_ ps q=>⟨#[],by rw[q];simp⟩⟩
theorem Un.refl:Un fs ex H H h h:=Un.kept λ_ _ q=>q
theorem Un.laid (k:∀b u,h.get? b=some u->h'.get? b=some u)(hp:h.objs.size<=a)(e:H a=none):Un fs ex H (upd H a o) h h' where
 keep:=λb u q _ _ _=>k b u q
 slot:=λb u q _ _ _=>⟨u.slots,k b u q⟩
 free:=λb u q n _=>by rw[B6 (Ab9 (Ab8 (Ab3 q) hp))];exact n
 there:=λb u q _=>⟨u,k b u q⟩
 tups:=λb xs q=>by rw[B6 (G7 q e)];exact q
 frzs:=λb u xs q=>by rw[B6 (G7 q e)];exact q
 tbls:=λb ps q=>⟨#[],by rw[B6 (G7 q e),q];simp⟩
theorem Un.write (j:Mut (H x))(J:e=x\/H e=some (.own x))(k:∀b u,b≠e->h.get? b=some u->h'.get? b=some u)(s:∃u,h'.get? e=some u):Un fs ex H (upd H x o) h h':=by
 have U:∀b,H b=none->b≠x:=λb n z=>by subst z;rw[n]at j;exact j
 have X:∀b,H b=none->b≠e:=λb n z=>by
  subst z;rcases J with r | r
  .exact U b n r
  .rw[n]at r;cases r
 have Y:∀b u,H b=some u->¬Mut (some u)->b≠x:=λb u q nm z=>by subst z;rw[q]at j;exact nm j
 refine⟨λb u q n _ _=>k b u (X b n) q,λb u q n _ _=>⟨u.slots,k b u (X b n) q⟩,λb u q n _=>by rw[B6 (U b n)];exact n,λb u q _=>?_,
  λb xs q=>by rw[B6 (Y b _ q λz=>z)];exact q,λb u xs q=>by rw[B6 (Y b _ q λz=>z)];exact q,λb ps q=>⟨#[],by rw[B6 (Y b _ q λz=>z),q];simp⟩⟩
 by_cases w:b=e
 .subst w;exact s
 .exact⟨u,k b u w q⟩
end
def trk (h:Heap)(H:Hp):AL:=(List.range h.objs.size).filter λa=>(H a).isSome
def cA2 (h:Heap)(H:Hp):Heap:=PySem.W.hideAll h (trk h H)
theorem dC8 (h:Heap)(H:Hp):(cA2 h H).objs.size=h.objs.size:=PySem.W.hideAll_size _ _
theorem dL0 (e:h.get? b=some o)(n:H b=none):(cA2 h H).get? b=some o:=
 PySem.W.hideAll_get _ e λw=>by
  have q:(H b).isSome=true:=(Bf.mp w).2
  rw[n]at q;simp at q
theorem dV6 (e:(cA2 h H).get? b=some o):h.get? b=some o/\H b=none:=by
 have e':h.get? b=some o:=PySem.W.of_hideAll (trk h H) e
 refine⟨e',?_⟩;cases q:H b with
 | none=>rfl
 | some x=>
  have w:b∈trk h H:=Bf.mpr ⟨Ab5.mpr (Ab3 e'),by simp[q]⟩
  have z:(cA2 h H).get? b=none:=PySem.W.hideAll_none (trk h H) w
  rw[z]at e;cases e
def cD8 (g h:Heap)(L:Addr):List (Addr×Obj):=(List.range h.objs.size).filterMap λa=>if a=L\/(g.get? a).isSome=true then none else(h.get? a).map λo=>(a,o)
theorem aL1 (h1:a≠L)(w:g.get? a=none)(e:h.get? a=some o):(a,o)∈cD8 g h L:=
 List.mem_filterMap.mpr ⟨a,Ab5.mpr (Ab3 e),by simp[h1,w,e]⟩
theorem bM9 (hp:p∈cD8 g h L):p.1≠L/\g.get? p.1=none/\h.get? p.1=some p.2:=by
 obtain⟨b,_,e⟩:=List.mem_filterMap.mp hp;split at e
 .cases e
 .rename_i w;cases q:h.get? b with
  | none=>rw[q]at e;simp at e
  | some u=>
   rw[q]at e;simp only[Option.map_some,Option.some.injEq]at e;subst e;refine⟨λz=>w (.inl z),?_,q⟩
   show g.get? b=none
   cases r:g.get? b with
   | none=>rfl
   | some v=>exact(w (.inr (by simp[r]))).elim
theorem dO8:News g L h (cD8 g h L):=λp hp=>let ⟨a,b,c⟩:=bM9 hp;⟨c,a,b⟩
structure Mod (K:Frag)(mg:Str->Option Value)(base:Heap):Prop where
 kin:K.In base
 glob:base.Ns mainGlobals mg
 blt:∃mb,base.Ns builtinsNs mb/\∀x:Str,x≠"__name__" -> mb x=bootBuiltins x
 nolimit:base.NoLimit
structure Cx where
 prog:Program
 w:World
 K:Frag
 mg:Str->Option Value
 base:Heap
 A:Around
 N:AH
 s₀:Shared
 H₀:Hp
 env:Env
 outer:List Env
 stack:List Env
 ex:AL
 fn:Str->Bool
 calm:Bool
 pn:List (Addr×Obj)
 xe:Value->Shared->Prop
def frs (l:List Env):AL:=l.filterMap (·.frame)
abbrev Cx.fs (X:Cx):AL:=frs X.outer
def Vis (sc:Scope)(x:Str):Prop:=sc.names.lookup x=some .local\/sc.names.lookup x=some .cell\/sc.names.lookup x=some .free
def Loc (sc:Scope)(x:Str):Prop:=sc.names.lookup x=some .local\/sc.names.lookup x=some .cell
def eU5 (env:Env)(h:Heap)(m:Str->Option Value)(x:Str)(u:Value):Prop:=
 (env.kindOf x=some .local/\m x=some u)\/((env.kindOf x=some .cell\/env.kindOf x=some .free)/\∃c,env.cells.lookup x=some c/\h.IsCell c (some u))
structure Cx.Ok (X:Cx):Prop where
 mod:Mod X.K X.mg X.base
 kind:X.env.scope.kind=.function
 glob:X.env.globals=mainGlobals
 blt:X.env.builtins=builtinsNs
 above:X.s₀.heap.objs.size<=X.env.locals
 inj:∀x y c,X.env.cells.lookup x=some c->X.env.cells.lookup y=some c->x=y
 has:∀x,(X.env.kindOf x=some .cell\/X.env.kindOf x=some .free)->∃c,X.env.cells.lookup x=some c
 cab:∀x c,X.fn x=true->X.env.cells.lookup x=some c->X.s₀.heap.objs.size<=c
 hd:X.calm=true->X.A.handled=none
 frames:X.A.frames=some X.stack
 stk:X.stack=X.outer\/(X.stack=X.env::X.outer/\X.env.frame=some X.env.locals)
 exf:∀b∈X.ex,b≠X.env.locals/\∀x c,X.env.cells.lookup x=some c->c≠b
 bs:∀b o,X.base.get? b=some o->X.s₀.heap.get? b=some o/\X.H₀ b=none
 bsz:X.base.objs.size<=X.s₀.heap.objs.size
 noex:∀b o,X.base.get? b=some o->b∉X.ex
 exfs:∀b∈X.ex,b∉X.fs
 funs:X.s₀.heap.FunFrames X.base X.outer
 frf:∀b∈X.fs,X.H₀ b=none
structure Inv (X:Cx)(bA:Eb)(σ:List (Option V))(H:Hp)(s:Shared):Prop where
 ok:X.Ok
 os:s.os=X.s₀.os
 bare:AllBare s.gens
 base:Un X.fs X.ex X.H₀ H X.s₀.heap s.heap
 loc:∃m,s.heap.Ns X.env.locals m/\∀(i:Nat) (x:Str) (v:V),X.N[i]? = some x->σ[i]? = some (some v)->Vis X.env.scope x->∃u,RelV v u/\eU5 X.env s.heap m x u
 cell:∀x c,X.env.cells.lookup x=some c->∃v,s.heap.IsCell c v
 free:H X.env.locals=none
 freeC:∀x c,X.env.cells.lookup x=some c->H c=none
 pin:∀p∈X.pn++bA,s.heap.get? p.1=some p.2/\H p.1=none/\p.1≠X.env.locals/\p.1∉X.fs/\∀v,p.2.data≠.cell v
 hok:HOk X.prog X.w H s.heap
 len:σ.length=X.N.length
section
variable {X:Cx}{bA:Eb}{σ:List (Option V)}{H H':Hp}{s:Shared}{h':Heap}
theorem Cx.Ok.nofr (ok:X.Ok)(e:X.base.get? b=some o):b∉X.fs:=λw=>by
 have:=(ok.funs.mem w).1
 rw[e]at this;cases this
theorem Inv.bs (I:Inv X bA σ H s):∀b o,X.base.get? b=some o->s.heap.get? b=some o/\H b=none:=λb o e=>
 ⟨I.base.keep b o (I.ok.bs b o e).1 (I.ok.bs b o e).2 (I.ok.nofr e) (I.ok.noex b o e),I.base.free b o (I.ok.bs b o e).1 (I.ok.bs b o e).2 (I.ok.noex b o e)⟩
theorem Inv.bk (I:Inv X bA σ H s):∀b o,X.base.get? b=some o->s.heap.get? b=some o:=λb o e=>(I.bs b o e).1
theorem Inv.mod (I:Inv X bA σ H s):Mod X.K X.mg X.base:=I.ok.mod
theorem Inv.kIn (I:Inv X bA σ H s):X.K.In s.heap:=I.ok.mod.kin.keeps I.bk
theorem Inv.lt (I:Inv X bA σ H s):X.env.locals<s.heap.objs.size:=let ⟨_,e,_⟩:=I.loc;e.lt
theorem Inv.sz (I:Inv X bA σ H s):X.s₀.heap.objs.size<=s.heap.objs.size:=Bd I.ok.above (Cv I.lt)
theorem Inv.nofs (I:Inv X bA σ H s)(h:s.heap.objs.size<=a):a∉X.fs:=λe=>by
 obtain⟨_,o,ho,_⟩:=I.ok.funs.mem e;exact absurd (Ab8 (Ab3 ho) (Bd I.sz h)) (Ad9 _)
theorem Inv.cne (I:Inv X bA σ H s):∀x c,X.env.cells.lookup x=some c->c≠X.env.locals:=λx c e z=>by
 obtain⟨v,o,ho,j⟩:=I.cell x c e;obtain⟨m,⟨J,U,Y,r,w,_⟩,_⟩:=I.loc;rw[z,r]at ho;cases ho;rw[w]at j;cases j
theorem Inv.funs (I:Inv X bA σ H s):s.heap.FunFrames X.base X.outer:=by
 have all:∀(l:List Env),(∀b∈frs l,b∈X.fs)->X.s₀.heap.FunFrames X.base l->s.heap.FunFrames X.base l:=by
  intro l;induction l with
  | nil=>intro _ _;trivial
  | cons J r B=>
   intro U R;obtain⟨N,⟨L,o,Y,Q,ho,M⟩,F⟩:=R;have w:L∈X.fs:=U L (by unfold frs;rw[An,Y];exact Al)
   obtain⟨P,e⟩:=I.base.slot L o ho (I.ok.frf L w) w λz=>I.ok.exfs L z w
   exact⟨N,⟨L,_,Y,Q,e,M⟩,B (λb j=>U b (by unfold frs;rw[An,Y];exact Ad4 _ j)) F⟩
 exact all X.outer (λ_ j=>j) I.ok.funs
theorem Inv.stack (I:Inv X bA σ H s):s.heap.FunFrames X.base X.stack:=by
 rcases I.ok.stk with e | ⟨e,w⟩
 .rw[e];exact I.funs
 .rw[e];obtain⟨m,r,_⟩:=I.loc;refine .cons (by rw[I.ok.kind];decide) w r ?_ I.funs
  exact Heap.get?_none_of_le (Bd I.ok.bsz I.ok.above)
theorem Inv.stkSub (I:Inv X bA σ H s):∀b∈frs X.stack,b∈X.env.locals::X.fs:=λb w=>by
 rcases I.ok.stk with e | ⟨e,r⟩
 .rw[e]at w;exact Ad4 _ w
 .rw[e]at w;unfold frs at w;rw[An,r]at w;exact w
theorem Inv.stkFree (I:Inv X bA σ H s):∀b∈frs X.stack,H b=none:=λb hb=>by
 rcases Aa1.mp (I.stkSub b hb) with e | hb
 .rw[e];exact I.free
 .obtain⟨_,o,ho,_⟩:=I.ok.funs.mem hb;exact I.base.free b o ho (I.ok.frf b hb) λz=>I.ok.exfs b z hb
theorem Inv.step {g':Array GenState}{t':Nat}{d':Drawn}{ch:AL}(I:Inv X bA σ H s)
  (J:∀b∈ch,(b∈X.ex\/X.s₀.heap.objs.size<=b)/\b≠X.env.locals/\(∀x c,X.env.cells.lookup x=some c->c≠b)/\∀p∈X.pn++bA,p.1≠b)
  (keep:∀b o,b≠X.env.locals->b∉X.fs->b∉ch->s.heap.get? b=some o->H b=none->h'.get? b=some o)
  (slot:∀b o,b≠X.env.locals->b∈X.fs->b∉ch->s.heap.get? b=some o->H b=none->∃sl,h'.get? b=some {o with slots:=sl}) (Y:∀b o,b∉ch->s.heap.get? b=some o->H b=none->H' b=none)
  (there:∀b o,b∉ch->s.heap.get? b=some o->∃o',h'.get? b=some o')
  (tups:∀b xs,H b=some (.tup xs)->H' b=some (.tup xs)) (B:∀b o u,H b=some (.frz o u)->H' b=some (.frz o u)) (tbls:∀b ps,H b=some (.tbl ps)->∃more,H' b=some (.tbl (ps++more)))
  (ns:∀m,s.heap.Ns X.env.locals m->h'.Ns X.env.locals m) (hok:HOk X.prog X.w H' h') (hg:AllBare g') :
  Inv X bA σ H' {s with heap:=h',gens:=g',drawn:=d',toks:=t'}:=by
 have P:∀b o,X.s₀.heap.get? b=some o->b≠X.env.locals:=λb o e=>Ab9 (Ab8 (Ab3 e) I.ok.above)
 have R:∀b o,X.s₀.heap.get? b=some o->b∉X.ex->b∉ch:=λb o e j Q=>by
  rcases (J b Q).1 with z | z
  .exact j z
  .exact absurd (Ab8 (Ab3 e) z) (Ad9 _)
 have U:∀x c,X.env.cells.lookup x=some c->∀v,s.heap.IsCell c v->h'.IsCell c v:=λx c e v ⟨o,ho,hd⟩=>by
  have M:c∉ch:=λz=>(J c z).2.2.1 x c e rfl
  by_cases hc:c∈X.fs
  .obtain⟨sl,q⟩:=slot c o (I.cne x c e) hc M ho (I.freeC x c e);exact⟨_,q,hd⟩
  .exact⟨o,keep c o (I.cne x c e) hc M ho (I.freeC x c e),hd⟩
 refine⟨I.ok,I.os,hg,⟨λb o e n Q j=>?_,λb o e n Q j=>?_,λb o e n j=>?_,λb o e j=>?_,λb xs e=>tups b xs (I.base.tups b xs e),λb o xs e=>B b o xs (I.base.frzs b o xs e),λb ps e=>?_⟩,?_,λx c e=>?_,?_,λx c e=>?_,λp hp=>?_,hok,I.len⟩
 .exact keep b o (P b o e) Q (R b o e j) (I.base.keep b o e n Q j) (I.base.free b o e n j)
 .obtain⟨sl,N⟩:=I.base.slot b o e n Q j;obtain⟨sl',F⟩:=slot b _ (P b o e) Q (R b o e j) N (I.base.free b o e n j);exact⟨sl',F⟩
 .obtain⟨o',N⟩:=I.base.there b o e j;exact Y b o' (R b o e j) N (I.base.free b o e n j)
 .obtain⟨o',N⟩:=I.base.there b o e j;exact there b o' (R b o e j) N
 .obtain⟨m1,N⟩:=I.base.tbls b ps e;obtain⟨m2,F⟩:=tbls b _ N;exact⟨m1++m2,by rw[F,Array.append_assoc]⟩
 .obtain⟨m,hn,hl⟩:=I.loc;refine⟨m,ns m hn,λi x v N F e3=>?_⟩
  obtain⟨u,r,l⟩:=hl i x v N F e3;refine⟨u,r,?_⟩;rcases l with l | ⟨k,c,e,z⟩
  .exact .inl l
  .exact .inr ⟨k,c,e,U x c e _ z⟩
 .obtain⟨v,z⟩:=I.cell x c e;exact⟨v,U x c e v z⟩
 .obtain⟨m,⟨o,_,_,ho,_⟩,_⟩:=I.loc;exact Y _ o (λz=>(J _ z).2.1 rfl) ho I.free
 .obtain⟨v,o,ho,hd⟩:=I.cell x c e;exact Y c o (λz=>(J c z).2.2.1 x c e rfl) ho (I.freeC x c e)
 .obtain⟨e,n,ne,nf,d⟩:=I.pin p hp;have M:p.1∉ch:=λz=>(J p.1 z).2.2.2 p hp rfl
  exact⟨keep p.1 p.2 ne nf M e n,Y p.1 p.2 M e n,ne,nf,d⟩
theorem Inv.un {t':Nat}(I:Inv X bA σ H s)(u:Un X.fs [] H H' s.heap h')(M:HOk X.prog X.w H' h'):Inv X bA σ H' {s with heap:=h',toks:=t'}:=by
 obtain⟨m,⟨o,B,F,ho,r⟩,_⟩:=id I.loc;obtain⟨sl,N⟩:=u.any ho I.free (by simp)
 exact I.step (g':=s.gens) (d':=s.drawn) (ch:=[]) (λ_ z=>nomatch z) (λb o _ J _ e n=>u.keep b o e n J (by simp)) (λb o _ J _ e n=>u.slot b o e n J (by simp)) (λb o _ e n=>u.free b o e n (by simp)) (λb o _ e=>u.there b o e (by simp)) u.tups u.frzs u.tbls (λP R=>by
  obtain⟨o',U,Y,j,Q⟩:=R;rw[ho]at j;cases j;exact⟨_,U,Y,N,Q⟩) M I.bare
theorem Inv.call {g':Array GenState}{t':Nat}{d':Drawn}{ch:AL}(I:Inv X bA σ H s)(u:Un (frs X.stack) ch H H' s.heap h')(R:HOk X.prog X.w H' h')(F:AllBare g')
  (Y:∀b∈ch,(b∈X.ex\/X.s₀.heap.objs.size<=b)/\b≠X.env.locals/\(∀x c,X.env.cells.lookup x=some c->c≠b)/\∀p∈X.pn++bA,p.1≠b) :
  Inv X bA σ H' {s with heap:=h',gens:=g',drawn:=d',toks:=t'}:=by
 obtain⟨m,⟨o,es,ep,ho,r⟩,_⟩:=id I.loc;obtain⟨sl,N⟩:=u.any ho I.free λz=>(Y _ z).2.1 rfl
 exact I.step (ch:=ch) Y (λb o N Q j e n=>u.keep b o e n (λz=>(Aa1.mp (I.stkSub b z)).elim N Q) j) (λb o _ _ j e n=>u.any e n j) (λb o j e n=>u.free b o e n j) (λb o j e=>u.there b o e j) u.tups u.frzs u.tbls (λm' B=>by
  obtain⟨o',M,J,U,P⟩:=B;rw[ho]at U;cases U;exact⟨_,M,J,N,P⟩) R F
theorem Inv.turned {t':Nat}{it:Addr}(I:Inv X bA σ H s)(k:∀b o,b≠it->s.heap.get? b=some o->h'.get? b=some o)(F:H it=none)(Y:it≠X.env.locals)
  (h1:it∈X.ex\/X.s₀.heap.objs.size<=it) (M:∀x c,X.env.cells.lookup x=some c->c≠it) (N:∀p∈X.pn++bA,p.1≠it):Inv X bA σ H {s with heap:=h',toks:=t'}:=by
 have j:∀b u,H b=some u->b≠it:=λb u e z=>by rw[z,F]at e;cases e
 refine I.step (g':=s.gens) (d':=s.drawn) (ch:=[it]) (λb R=>?_) (λb o _ _ w e _=>k b o (λz=>w (by simp[z])) e) (λb o _ _ w e _=>⟨o.slots,k b o (λz=>w (by simp[z])) e⟩) (λ_ _ _ _ n=>n)
  (λb o w e=>⟨o,k b o (λz=>w (by simp[z])) e⟩) (λ_ _ e=>e) (λ_ _ _ e=>e) (λb ps e=>⟨#[],by rw[e];simp⟩) (λm Q=>?_) (λb u e=>?_) I.bare
 .have e:b=it:=by simpa using R
  subst e;exact⟨h1,Y,M,N⟩
 .obtain⟨o,J,U,ho,r⟩:=Q;exact⟨o,J,U,k _ o (Ne.symm Y) ho,r⟩
 .refine(I.hok b u e).stay (λc v w q=>k c v ?_ q) (λ_ q=>q) λ_ _ q=>q
  rcases w with z | z
  .rw[z];exact j b u e
  .exact j c _ z
theorem Inv.tok (I:Inv X bA σ H s)(t:Nat):Inv X bA σ H {s with toks:=t}:=I.un (h':=s.heap) (t':=t) Un.refl I.hok
theorem Inv.kept (I:Inv X bA σ H s)(k:∀b u,s.heap.get? b=some u->h'.get? b=some u):Inv X bA σ H {s with heap:=h',toks:=t'}:=I.un (Un.kept k) (I.hok.kept k)
theorem Inv.laid (I:Inv X bA σ H s)(k:∀b u,s.heap.get? b=some u->h'.get? b=some u)(hp:s.heap.objs.size<=a)(e:ObjOk X.prog X.w (upd H a o) h' a o) :
  Inv X bA σ (upd H a o) {s with heap:=h',toks:=t'}:=I.un (Un.laid k hp (I.hok.fresh hp)) (I.hok.laid k hp e)
theorem Inv.write (I:Inv X bA σ H s)(U:Mut (H x))(Y:e=x\/H e=some (.own x))(k:∀b u,b≠e->s.heap.get? b=some u->h'.get? b=some u)(r:∃u,h'.get? e=some u)
  (j:ObjOk X.prog X.w (upd H x o) h' x o):Inv X bA σ (upd H x o) {s with heap:=h',toks:=t'}:=I.un (Un.write U Y k r) (I.hok.write U Y k r j)
theorem Inv.weak (I:Inv X bA σ H s)(U:σ'.length=σ.length)(w:∀(i:Nat) v,σ'[i]? = some (some v)->σ[i]? = some (some v)):Inv X bA σ' H s:=
 ⟨I.ok,I.os,I.bare,I.base,let ⟨m,J,e⟩:=I.loc;⟨m,J,λi x v r j Y=>e i x v r (w i v j) Y⟩,I.cell,I.free,I.freeC,I.pin,I.hok,U.trans I.len⟩
theorem Inv.pins_of (I:Inv X bA σ H s)(h:∀p∈pins',s.heap.get? p.1=some p.2/\H p.1=none/\p.1≠X.env.locals/\p.1∉X.fs/\∀v,p.2.data≠.cell v):Inv X pins' σ H s:=
 ⟨I.ok,I.os,I.bare,I.base,I.loc,I.cell,I.free,I.freeC,λp hp=>(Aa0.mp hp).elim (λz=>I.pin p (Bo _ z)) (h p),I.hok,I.len⟩
theorem cL5 {N:AH}(r:N.Nodup){i j:Nat}{x:Str}(a:N[i]? = some x)(b:N[j]? = some x):i=j:=by
 obtain⟨h1,e⟩:=Ab0.mp a;obtain⟨Y,w⟩:=Ab0.mp b;exact(List.getElem_inj r).mp (e.trans w.symm)
theorem cZ7 (I:Inv X bA σ H s)(hN:X.N.Nodup)(hi:X.N[i]? = some x)(R:Loc X.env.scope x)(r:RelV v u)
  (h:∀s',Inv X bA (σ.set i (some v)) H s'->(∃a,Heap.SameBut a s.heap s'.heap/\(a=X.env.locals\/X.env.cells.lookup x=some a))->Q () s') (hf:X.fn x=true\/X.env.scope.names.lookup x=some .local:=by first | exact .inl rfl | exact .inr rfl | assumption):wpAny M A (storeName X.env x u) Q E s:=by
 obtain⟨m,hn,hl⟩:=id I.loc;have hcls:(X.env.scope.kind == .class||(X.env.scope.kind == .module&&X.env.locals != X.env.globals))=false:=by rw[I.ok.kind];rfl
 have hiσ:i<σ.length:=by rw[I.len];exact(Ab0.mp hi).1
 have cne:=I.cne
 have J:∀{a:Addr} {h':Heap},(∃o,s.heap.get? a=some o/\H a=none)->Heap.SameBut a s.heap h'->HOk X.prog X.w H h':=λ{a h'} ha Y b ob e=>by
  obtain⟨_,_,F⟩:=ha;refine(I.hok b ob e).stay (λc w' hc q=>(Y.2 c ?_).trans q) (λ_ q=>q) λ_ _ q=>q
  rintro rfl;rcases hc with rfl | hc
  .rw[F]at e;cases e
  .rw[F]at hc;cases hc
 rcases R with hk | hk
 .refine wpAny_storeName_local hk hn (λh' hn' Y=>?_) hcls
  obtain⟨oL,_,_,hoL,_⟩:=id hn;refine h _ ⟨I.ok,I.os,I.bare,⟨λb o e n P R=>?_,λb o e n P R=>?_,I.base.free,λb o e R=>?_,I.base.tups,I.base.frzs,I.base.tbls⟩,⟨_,hn',λj y v' U B e3=>?_⟩,λy c e=>?_,I.free,I.freeC,λp hp=>?_,J ⟨oL,hoL,I.free⟩ Y,by simpa using I.len⟩ ⟨_,Y,.inl rfl⟩
  .exact(Y.2 b (Ab9 (Ab8 (Ab3 e) I.ok.above))).trans (I.base.keep b o e n P R)
  .obtain⟨sl,U⟩:=I.base.slot b o e n P R;exact⟨sl,(Y.2 b (Ab9 (Ab8 (Ab3 e) I.ok.above))).trans U⟩
  .obtain⟨o',U⟩:=I.base.there b o e R;exact⟨o',(Y.2 b (Ab9 (Ab8 (Ab3 e) I.ok.above))).trans U⟩
  .by_cases hj:j=i
   .subst hj;rw[hi]at U;cases U;rw[Ai hiσ]at B;cases B;exact⟨u,r,.inl ⟨hk,by simp⟩⟩
   .rw[Ad0 (Ne.symm hj)]at B;obtain⟨u',r',q⟩:=hl j y v' U B e3;refine⟨u',r',?_⟩;rcases q with⟨k,e⟩ | ⟨k,c,e,z⟩
    .refine .inl ⟨k,?_⟩
     have:y≠x:=λe=>hj (cL5 hN U (e▸hi))
     simp[this,e]
    .exact .inr ⟨k,c,e,z.sameBut Y (cne y c e)⟩
  .obtain⟨w',z⟩:=I.cell y c e;exact⟨w',z.sameBut Y (cne y c e)⟩
  .obtain⟨e,n,ne,nf,d⟩:=I.pin p hp;exact⟨(Y.2 p.1 ne).trans e,n,ne,nf,d⟩
 .have hfn:X.fn x=true:=by
   rcases hf with z | z
   .exact z
   .rw[z]at hk;cases hk
  obtain⟨c,hc⟩:=I.ok.has x (.inl hk);obtain⟨w',z⟩:=I.cell x c hc;refine wpAny_storeName_cell I.ok.kind hk hc z (λh' hc' Y=>?_)
  obtain⟨oc,hoc,hocd⟩:=id z;refine h {s with heap:=h'} ⟨I.ok,I.os,I.bare,⟨λb o e n P R=>?_,λb o e n P R=>?_,I.base.free,λb o e R=>?_,I.base.tups,I.base.frzs,I.base.tbls⟩,⟨m,hn.sameBut Y (Ne.symm (cne x c hc)),λj y v' U B e3=>?_⟩,λy c' e=>?_,I.free,I.freeC,λp hp=>?_,J ⟨oc,hoc,I.freeC x c hc⟩ Y,by simpa using I.len⟩ ⟨c,Y,.inr hc⟩
  .exact(Y.2 b (Ab9 (Ab8 (Ab3 e) (I.ok.cab x c hfn hc)))).trans (I.base.keep b o e n P R)
  .obtain⟨sl,U⟩:=I.base.slot b o e n P R;exact⟨sl,(Y.2 b (Ab9 (Ab8 (Ab3 e) (I.ok.cab x c hfn hc)))).trans U⟩
  .obtain⟨o',U⟩:=I.base.there b o e R;exact⟨o',(Y.2 b (Ab9 (Ab8 (Ab3 e) (I.ok.cab x c hfn hc)))).trans U⟩
  .by_cases hj:j=i
   .subst hj;rw[hi]at U;cases U;rw[Ai hiσ]at B;cases B;exact⟨u,r,.inr ⟨.inl hk,c,hc,hc'⟩⟩
   .rw[Ad0 (Ne.symm hj)]at B;obtain⟨u',r',q⟩:=hl j y v' U B e3;refine⟨u',r',?_⟩;rcases q with q | ⟨k,c',e,z'⟩
    .exact .inl q
    .refine .inr ⟨k,c',e,z'.sameBut Y ?_⟩;rintro rfl;exact hj (cL5 hN U (I.ok.inj _ _ _ e hc▸hi))
  .by_cases hcc:c'=c
   .subst hcc;exact⟨_,hc'⟩
   .obtain⟨w2,z2⟩:=I.cell y c' e;exact⟨w2,z2.sameBut Y hcc⟩
  .obtain⟨e,n,ne,nf,d⟩:=I.pin p hp;refine⟨(Y.2 p.1 ?_).trans e,n,ne,nf,d⟩;intro q;rw[q,hoc]at e;have q':oc=p.2:=Ab4 e;exact d w' (by rw[<- q'];exact hocd)
theorem aY5 (I:Inv X bA σ H s)(w:X.N.Nodup)(hi:X.N[i]? = some x)(Y:Loc X.env.scope x)(r:RelV v u)
  (h:∀s',Inv X bA (σ.set i (some v)) H s'->Q () s') (j:X.fn x=true\/X.env.scope.names.lookup x=some .local:=by first | exact .inl rfl | exact .inr rfl | assumption):wpAny M A (storeName X.env x u) Q E s:=
 cZ7 I w hi Y r (λs' e _=>h s' e) j
theorem Inv.call' (I:Inv X bA σ H s)(ho:s'.os=s.os)(u:Un (frs X.stack) ch H H' s.heap s'.heap)(j:HOk X.prog X.w H' s'.heap)(Y:AllBare s'.gens)
  (r:∀b∈ch,(b∈X.ex\/X.s₀.heap.objs.size<=b)/\b≠X.env.locals/\(∀x c,X.env.cells.lookup x=some c->c≠b)/\∀p∈X.pn++bA,p.1≠b):Inv X bA σ H' s':=by
 obtain⟨h',g',d',t',U⟩:=s';have e:U=s.os:=ho;subst e;exact I.call (g':=g') (t':=t') (d':=d') u j Y r
end
abbrev XK:=Value->AK->Hp->Prop
abbrev St:=List (Option V)
abbrev VK:=V->Hp->Prop
abbrev TE:=St->Hp->VK->Prop
abbrev TT:=St->Hp->(Bool->Hp->Prop)->Prop
abbrev TA:=St->Hp->(List V->Hp->Prop)->Prop
structure bF7 where
 nx:St->Hp->Prop
 rt:VK
 bk:St->Hp->Prop:=λ_ _=>False
 ct:St->Hp->Prop:=λ_ _=>False
abbrev TS:=bF7->St->Hp->Prop
def EP (X:Cx)(bA:Eb)(σ:St)(Q:VK)(u:Value)(s':Shared):Prop:=∃v H',Inv X bA σ H' s'/\RelV v u/\Q v H'
def TP (X:Cx)(bA:Eb)(σ:St)(Q:Bool->Hp->Prop)(b:Bool)(s':Shared):Prop:=∃H',Inv X bA σ H' s'/\Q b H'
def AP (X:Cx)(bA:Eb)(σ:St)(Q:List V->Hp->Prop)(us:AG)(s':Shared):Prop:=∃vs H',Inv X bA σ H' s'/\Vals vs us/\Q vs H'
def SP (X:Cx)(bA:Eb)(D:bF7)(f:Flow)(s':Shared):Prop:=
 match f with
 | .next=>∃σ' H',Inv X bA σ' H' s'/\D.nx σ' H'
 | .brk=>∃σ' H',Inv X bA σ' H' s'/\D.bk σ' H'
 | .cont=>∃σ' H',Inv X bA σ' H' s'/\D.ct σ' H'
 | .ret u=>∃v σ' H',Inv X bA σ' H' s'/\RelV v u/\D.rt v H'
structure PE (X:Cx)(e:Expr)(t:TE):Prop where
 mk ::
 run :
  ∀(bA:Eb) (s:Shared) (σ:St) (H:Hp) (Q:VK),Inv X bA σ H s->t σ H Q->wpAny (model X.prog X.w) X.A (eval e X.env) (EP X bA σ Q) X.xe s
instance {X:Cx} {e:Expr} {t:TE}:CoeFun (PE X e t) λ_=>
 (∀(bA:Eb) (s:Shared) (σ:St) (H:Hp) (Q:VK),Inv X bA σ H s->t σ H Q->wpAny (model X.prog X.w) X.A (eval e X.env) (EP X bA σ Q) X.xe s):=⟨PE.run⟩
structure PT (X:Cx)(e:Expr)(t:TT):Prop where
 mk ::
 run :
  ∀(bA:Eb) (s:Shared) (σ:St) (H:Hp) (Q:Bool->Hp->Prop),Inv X bA σ H s->t σ H Q->wpAny (model X.prog X.w) X.A (isTrue e X.env (eval e X.env)) (TP X bA σ Q) X.xe s
instance {X:Cx} {e:Expr} {t:TT}:CoeFun (PT X e t) λ_=>
 (∀(bA:Eb) (s:Shared) (σ:St) (H:Hp) (Q:Bool->Hp->Prop),Inv X bA σ H s->t σ H Q->wpAny (model X.prog X.w) X.A (isTrue e X.env (eval e X.env)) (TP X bA σ Q) X.xe s):=⟨PT.run⟩
structure PW (X:Cx)(e:Expr)(t:TT):Prop where
 mk ::
 run :
  ∀(whole:Sem Value) (bA:Eb) (s:Shared) (σ:St) (H:Hp) (Q:Bool->Hp->Prop),Inv X bA σ H s->t σ H Q->wpAny (model X.prog X.w) X.A (isTrue e X.env whole) (TP X bA σ Q) X.xe s
instance {X:Cx} {e:Expr} {t:TT}:CoeFun (PW X e t) λ_=>
 (∀(whole:Sem Value) (bA:Eb) (s:Shared) (σ:St) (H:Hp) (Q:Bool->Hp->Prop),Inv X bA σ H s->t σ H Q->wpAny (model X.prog X.w) X.A (isTrue e X.env whole) (TP X bA σ Q) X.xe s):=⟨PW.run⟩
theorem PW.pt (h:PW X e t):PT X e t:=⟨h _⟩
structure PA (X:Cx)(es:AM)(t:TA):Prop where
 mk ::
 run :
  ∀(pos:Pos) (bA:Eb) (s:Shared) (σ:St) (H:Hp) (Q:List V->Hp->Prop),Inv X bA σ H s->t σ H Q->wpAny (model X.prog X.w) X.A (spliced (backTo pos (starEach es X.env))) (AP X bA σ Q) X.xe s
instance {X:Cx} {es:AM} {t:TA}:CoeFun (PA X es t) λ_=>
 (∀(pos:Pos) (bA:Eb) (s:Shared) (σ:St) (H:Hp) (Q:List V->Hp->Prop),Inv X bA σ H s->t σ H Q->wpAny (model X.prog X.w) X.A (spliced (backTo pos (starEach es X.env))) (AP X bA σ Q) X.xe s):=⟨PA.run⟩
structure PS (X:Cx)(st:Stmt)(t:TS):Prop where
 mk ::
 run :
  ∀(bA:Eb) (s:Shared) (σ:St) (H:Hp) (D:bF7),Inv X bA σ H s->t D σ H->wpAny (model X.prog X.w) X.A (exec st X.env) (SP X bA D) X.xe s
instance {X:Cx} {st:Stmt} {t:TS}:CoeFun (PS X st t) λ_=>
 (∀(bA:Eb) (s:Shared) (σ:St) (H:Hp) (D:bF7),Inv X bA σ H s->t D σ H->wpAny (model X.prog X.w) X.A (exec st X.env) (SP X bA D) X.xe s):=⟨PS.run⟩
structure PSs (X:Cx)(st:List Stmt)(t:TS):Prop where
 mk ::
 run :
  ∀(bA:Eb) (s:Shared) (σ:St) (H:Hp) (D:bF7),Inv X bA σ H s->t D σ H->wpAny (model X.prog X.w) X.A (execs st X.env) (SP X bA D) X.xe s
instance {X:Cx} {st:List Stmt} {t:TS}:CoeFun (PSs X st t) λ_=>
 (∀(bA:Eb) (s:Shared) (σ:St) (H:Hp) (D:bF7),Inv X bA σ H s->t D σ H->wpAny (model X.prog X.w) X.A (execs st X.env) (SP X bA D) X.xe s):=⟨PSs.run⟩
theorem thn (h:wpAny M A t Q E s)(e:∀a s,Q a s->Q' a s):wpAny M A t Q' E s:=wpAny_mono h e λ_ _ x=>x
section
def C7 (i:Nat):TE:=λσ H Q=>∃v,σ[i]? = some (some v)/\Q v H
def tC (v:V):TE:=λ_ H Q=>Q v H
theorem eN5 (R:X.N[i]? = some x)(hv:Vis X.env.scope x)(U:(x==("__debug__" : Str))=false:=by decide)(Y:(x==("__classdict__" : Str))=false:=by decide):PE X (.Name x pos) (C7 i):=by
 refine⟨?_⟩;intro M s σ H Q I h;obtain⟨v,e,h⟩:=h;obtain⟨m,P,F⟩:=I.loc;obtain⟨u,r,l⟩:=F i x v R e hv;have j:EP X M σ Q u s:=⟨v,H,I,r,h⟩;rcases l with⟨hk,B⟩ | ⟨hk,c,J,w⟩
 .exact wpAny_Name (wpAny_loadName_local I.ok.kind hk P B j) U
 .rcases hk with hk | hk
  .exact wpAny_Name (wpAny_loadName_cell I.ok.kind hk J w j) U
  .exact wpAny_Name (wpAny_loadName_free I.ok.kind hk J w j Y) U
theorem A4:PE X (.Constant (.int i) j pos) (tC (.int i)):=⟨λ_ _ _ H _ I h=>wpAny_Constant_int ⟨.int i,H,I.tok _,⟨_,rfl⟩,h⟩⟩
theorem X4:PE X (.Constant (.bool b) j pos) (tC (.bl b)):=⟨λ_ _ _ H _ I h=>Constant_bool ⟨.bl b,H,I,rfl,h⟩⟩
theorem bE7:PE X (.Constant .none j pos) (tC .non):=⟨λ_ _ _ H _ I h=>Constant_none ⟨.non,H,I,rfl,h⟩⟩
theorem K2:PE X (.Constant (.str x) j pos) (tC (.str x)):=⟨λ_ _ _ H _ I h=>Calls.Constant_str ⟨.str x,H,I.tok _,⟨_,rfl⟩,h⟩⟩
def Gl (X:Cx)(x:Str):Prop:=X.env.kindOf x=some .globalImplicit
theorem Z5 (I:Inv X bA σ H s)(r:Gl X x)(j:X.mg x=some u)(h:Q u s)
  (e:(x==("__debug__" : Str))=false:=by decide):wpAny (model X.prog X.w) X.A (eval (.Name x pos) X.env) Q E s:=
 Calls.Name_function_global I.ok.kind r (Calls.loadGlobal_global (by rw[I.ok.glob];exact I.mod.glob.keeps I.bk) j h) e
theorem aO1 (I:Inv X bA σ H s)(j:Gl X x)(Y:X.mg x=none)(J:bootBuiltins x=some u)(h:Q u s)
  (U:x≠"__name__" := by decide) (r:(x==("__debug__" : Str))=false:=by decide):wpAny (model X.prog X.w) X.A (eval (.Name x pos) X.env) Q E s:=by
 obtain⟨M,h1,e⟩:=I.mod.blt;exact Calls.Name_function_global I.ok.kind j (Calls.loadGlobal_builtin (by rw[I.ok.glob];exact I.mod.glob.keeps I.bk) Y (by rw[I.ok.blt];exact h1.keeps I.bk) ((e x U).trans J) h) r
theorem P8 (w:Gl X x)(j:X.mg x=some u)(r:RelV v u)(e:(x==("__debug__" : Str))=false:=by decide):PE X (.Name x pos) (tC v):=⟨λ_ _ _ H _ I h=>Z5 I w j ⟨v,H,I,r,h⟩ e⟩
theorem dU9 (w:Gl X x)(j:X.mg x=none)(Y:bootBuiltins x=some u)(r:RelV v u)(s:x≠"__name__" := by decide)(e:(x==("__debug__" : Str))=false:=by decide):PE X (.Name x pos) (tC v):=⟨λ_ _ _ H _ I h=>aO1 I w j Y ⟨v,H,I,r,h⟩ s e⟩
def t2I (ta tb:TE)(k:Int->Int->Hp->Prop):St->Hp->Prop:=λσ H=>ta σ H λx H1=>tb σ H1 λy H2=>∃i j,x=.int i/\y=.int j/\k i j H2
structure PC (X:Cx)(op:CmpOp)(a b:Expr)(t:TE):Prop where
 mk ::
 run :
  ∀(bA:Eb) (s:Shared) (σ:St) (H:Hp) (Q:VK),Inv X bA σ H s->t σ H Q ->
   wpAny (model X.prog X.w) X.A (eval a X.env) (λv s₁=>wpAny (model X.prog X.w) X.A (eval b X.env) (λu s₂=>wpAny (model X.prog X.w) X.A (compareOp op v u) (EP X bA σ Q) X.xe s₂) X.xe s₁) X.xe s
instance {X:Cx} {op:CmpOp} {a b:Expr} {t:TE}:CoeFun (PC X op a b t) λ_=>
 (∀(bA:Eb) (s:Shared) (σ:St) (H:Hp) (Q:VK),Inv X bA σ H s->t σ H Q ->
  wpAny (model X.prog X.w) X.A (eval a X.env) (λv s₁=>wpAny (model X.prog X.w) X.A (eval b X.env) (λu s₂=>wpAny (model X.prog X.w) X.A (compareOp op v u) (EP X bA σ Q) X.xe s₂) X.xe s₁) X.xe s):=⟨PC.run⟩
def dD6 (p:Int->Int->Bool)(ta tb:TE):TE:=λσ H Q=>t2I ta tb (λi j H2=>Q (.bl (p i j)) H2) σ H
abbrev tLt:TE->TE->TE:=dD6 λi j=>decide (i<j)
abbrev tLe:TE->TE->TE:=dD6 λi j=>decide (i<=j)
abbrev tGt:TE->TE->TE:=dD6 λi j=>decide (j<i)
abbrev tGe:TE->TE->TE:=dD6 λi j=>decide (j<=i)
abbrev eY8:TE->TE->TE:=dD6 λi j=>decide (i=j)
abbrev eY9:TE->TE->TE:=dD6 λi j => !decide (i=j)
def tB (t:TE):TT:=λσ H Q=>t σ H λx H1=>∃c,x=.bl c/\Q c H1
theorem y7 (h:PE X e t)(Y:∀whole,isTrue e X.env whole=(do let v <- whole;standAt e.pos;holding [v] (truthy v)):=by intro _;rfl):PT X e (tB t):=by
 refine⟨?_⟩;intro j s σ H Q I U;refine isTrue_plain (thn (h j s σ H _ I U) λv N ⟨x,w,r,M,J⟩=>?_) (Y _)
 obtain⟨d,rfl,q⟩:=J;cases M;exact wpAny_truthy_bool ⟨w,r,q⟩
def eI1 (t u:TT):TT:=λσ H Q=>t σ H λc H1=>if c=true then u σ H1 Q else Q false H1
def tOr (t u:TT):TT:=λσ H Q=>t σ H λc H1=>if c=true then Q true H1 else u σ H1 Q
def eH9 (t:TT):TT:=λσ H Q=>t σ H λc H1=>Q (!c) H1
theorem bC3 (r:PT X a tA):PW X (.BoolOp .And [a] pos) tA:=by
 refine⟨?_⟩;intro Y w s σ H Q I h;refine isTrue_and (thn (r w s σ H Q I h) λc j e=>?_)
 cases c with
 | true=>exact isTrue_and_nil e
 | false=>exact e
theorem bQ8 (r:PT X a tA):PW X (.BoolOp .Or [a] pos) tA:=by
 refine⟨?_⟩;intro Y w s σ H Q I h;refine isTrue_or (thn (r w s σ H Q I h) λc j e=>?_)
 cases c with
 | false=>exact isTrue_or_nil e
 | true=>exact e
theorem bE8 (Y:PT X a tA)(U:PW X (.BoolOp .And (b::rest) pos) tB'):PW X (.BoolOp .And (a::b::rest) pos) (eI1 tA tB'):=by
 refine⟨?_⟩;intro M r s σ H Q I h;refine isTrue_and (thn (Y r s σ H _ I h) λc J ⟨e,w,j⟩=>?_)
 cases c with
 | true=>exact U M r J σ e Q w j
 | false=>exact⟨e,w,j⟩
theorem aV3 (Y:PT X a tA)(U:PW X (.BoolOp .Or (b::rest) pos) tB'):PW X (.BoolOp .Or (a::b::rest) pos) (tOr tA tB'):=by
 refine⟨?_⟩;intro M r s σ H Q I h;refine isTrue_or (thn (Y r s σ H _ I h) λc J ⟨e,w,j⟩=>?_)
 cases c with
 | true=>exact⟨e,w,j⟩
 | false=>exact U M r J σ e Q w j
theorem aT6 (r:PT X a tA):PT X (.UnaryOp .Not a pos) (eH9 tA):=by
 refine⟨?_⟩;intro w s σ H Q I h;exact isTrue_not (r w s σ H (λc e=>Q (!c) e) I h)
def eC0 (ta tb:TE):TE:=λσ H Q=>ta σ H λx H1=>∃c,x=.bl c/\if c=true then tb σ H1 Q else Q (.bl false) H1
def eV8 (ta tb:TE):TE:=λσ H Q=>ta σ H λx H1=>∃c,x=.bl c/\if c=true then Q (.bl true) H1 else tb σ H1 Q
def eC3 (ta:TE):TE:=λσ H Q=>ta σ H λx H1=>∃c,x=.bl c/\Q (.bl (!c)) H1
theorem bZ9 (h:PE X a t):PE X (.BoolOp op [a] pos) t:=⟨λe s σ H Q I w=>BoolOp_one (h e s σ H Q I w)⟩
theorem cQ2 (Y:PE X a ta)(U:PE X (.BoolOp .And (b::rest) pos) tb):PE X (.BoolOp .And (a::b::rest) pos) (eC0 ta tb):=by
 refine⟨?_⟩;intro j s σ H Q I h;refine BoolOp_and (thn (Y j s σ H _ I h) λv M ⟨x,w,r,J,e⟩=>?_)
 obtain⟨c,rfl,e⟩:=e;cases J;refine wpAny_truthy_bool ?_;cases c with
 | true=>exact U j M σ w Q r e
 | false=>exact⟨.bl false,w,r,rfl,e⟩
theorem eO8 (Y:PE X a ta)(U:PE X (.BoolOp .Or (b::rest) pos) tb):PE X (.BoolOp .Or (a::b::rest) pos) (eV8 ta tb):=by
 refine⟨?_⟩;intro j s σ H Q I h;refine BoolOp_or (thn (Y j s σ H _ I h) λv M ⟨x,w,r,J,e⟩=>?_)
 obtain⟨c,rfl,e⟩:=e;cases J;refine wpAny_truthy_bool ?_;cases c with
 | false=>exact U j M σ w Q r e
 | true=>exact⟨.bl true,w,r,rfl,e⟩
theorem dF6 (Y:PE X a ta):PE X (.UnaryOp .Not a pos) (eC3 ta):=by
 refine⟨?_⟩;intro j s σ H Q I h;refine UnaryOp_ (thn (Y j s σ H _ I h) λv J ⟨x,w,r,U,e⟩=>?_)
 obtain⟨c,rfl,e⟩:=e;cases U;exact not_of (wpAny_truthy_bool ⟨.bl (!c),w,r,rfl,e⟩)
def tIf (t:TT)(ta tb:TE):TE:=λσ H Q=>t σ H λc H1=>if c=true then ta σ H1 Q else tb σ H1 Q
theorem cJ0 (M:PT X c tA)(U:PE X a ta)(J:PE X b tb):PE X (.IfExp c a b pos) (tIf tA ta tb):=by
 refine⟨?_⟩;intro e s σ H Q I h;refine wpAny_IfExp (thn (M e s σ H _ I h) λd Y ⟨w,r,j⟩=>?_)
 cases d with
 | true=>exact U e Y σ w Q r j
 | false=>exact J e Y σ w Q r j
end
def SqL (K:Frag)(H:Hp)(a:Addr)(xs:List V):Prop:=
 Rd H a (.lst xs) \/
  ∃(o:Obj) (its:AJ) (n:Nat),K.lookup a=some o/\o.cls=.type "list" /\ o.dict=none/\o.data=.seq its n/\its.size<=sizeLine/\Vals xs its.toList
def SqT (K:Frag)(H:Hp)(a:Addr)(xs:List V):Prop:=
 Rd H a (.tup xs) \/
  ∃(o:Obj) (its:AJ) (n:Nat),K.lookup a=some o/\o.cls=.type "tuple" /\ o.dict=none/\o.data=.seq its n/\its.size<=sizeLine/\Vals xs its.toList
def eY5:Value->Option V
 | .none=>some .non
 | .bool b=>some (.bl b)
 | .int i _=>some (.int i)
 | .str x _=>some (.str x)
 | .bytes b _=>some (.byt b)
 | .float b _=>some (.flt b)
 | .ref a=>some (.ref a)
 | .type n=>some (.ty n)
 | _=>none
theorem RelV.abs (r:RelV x u):eY5 u=some x:=by
 cases x with
 | non=>cases r;rfl
 | bl _=>cases r;rfl
 | int _=>obtain⟨t,rfl⟩:=r;rfl
 | str _=>obtain⟨t,rfl⟩:=r;rfl
 | byt _=>obtain⟨t,rfl⟩:=r;rfl
 | flt _=>obtain⟨t,rfl⟩:=r;rfl
 | ref _=>cases r;rfl
 | ty _=>cases r;rfl
theorem RelV.inj (r:RelV x u)(q:RelV y u):x=y:=Ab4 (r.abs.symm.trans q.abs)
theorem Vals.inj:∀{xs ys:List V} {us:AG},Vals xs us->Vals ys us->xs=ys
 | _,_,_,.nil,.nil=>rfl
 | _,_,_,.cons r t,.cons r' t'=>by rw[r.inj r',Vals.inj t t']
section
theorem SqL.of {K:Frag}(h:H a=some (.lst xs)):SqL K H a xs:=.inl (.inl h)
theorem SqT.of {K:Frag}(h:H a=some (.tup xs)):SqT K H a xs:=.inl (.inl h)
theorem Inv.list (I:Inv X bA σ H s)(h:SqL X.K H a xs):∃its:AG,Vals xs its/\PlainL s.heap a its.toArray/\xs.length<=sizeLine:=by
 rcases h with h | ⟨o,its,n,Y,w,j,U,J,r⟩
 .obtain⟨z,its,n,r,e⟩:=h.ok I.hok;exact⟨its,r,⟨_,n,e,rfl,rfl,rfl⟩,z⟩
 .refine⟨its.toList,r,⟨o,n,I.kIn a o Y,w,j,by simpa using U⟩,?_⟩
  have e:=r.length
  simp only[Bj]at e
  lia
theorem Inv.tuple0 (I:Inv X bA σ H s)(h:SqT X.K H a xs):∃its:AG,Vals xs its/\Tup0 s.heap a its.toArray/\xs.length<=sizeLine:=by
 rcases h with h | ⟨o,its,n,Y,w,j,U,J,r⟩
 .obtain⟨z,its,r,p⟩:=h.ok I.hok;exact⟨its,r,p,z⟩
 .refine⟨its.toList,r,⟨o,I.kIn a o Y,w,⟨n,by simpa using U⟩,j⟩,?_⟩
  have e:=r.length
  simp only[Bj]at e
  lia
theorem Inv.tuple (I:Inv X bA σ H s)(h:SqT X.K H a xs):∃its:AG,Vals xs its/\IsTup s.heap a its.toArray/\xs.length<=sizeLine:=by
 obtain⟨its,r,p,z⟩:=I.tuple0 h;exact⟨its,r,p.tup,z⟩
theorem Inv.list_inj (I:Inv X bA σ H s)(h:SqL X.K H a xs)(h':SqL X.K H a ys):xs=ys:=by
 obtain⟨its,r,⟨o,n,e,_,_,d⟩,_⟩:=I.list h;obtain⟨w,U,⟨M,J,e',_,_,j⟩,_⟩:=I.list h';rw[e]at e';cases e';rw[d]at j
 injection j with Y _
 have:its=w:=by simpa using congrArg Array.toList Y
 subst this;exact r.inj U
theorem Inv.tuple_inj (I:Inv X bA σ H s)(h:SqT X.K H a xs)(h':SqT X.K H a ys):xs=ys:=by
 obtain⟨its,r,⟨o,e,_,n,d⟩,_⟩:=I.tuple h;obtain⟨w,U,⟨M,e',_,J,j⟩,_⟩:=I.tuple h';rw[e]at e';cases e';rw[d]at j
 injection j with Y _
 have:its=w:=by simpa using congrArg Array.toList Y
 subst this;exact r.inj U
end
abbrev Cx.wish (X:Cx)(E:Dz):Cx:={X with xe:=E}
abbrev Cx.nox (X:Cx):Cx:=X.wish λ_ _=>False
theorem Cx.Ok.wish {X:Cx}(ok:X.Ok)(E:Dz):(X.wish E).Ok:=
 ⟨ok.mod,ok.kind,ok.glob,ok.blt,ok.above,ok.inj,ok.has,ok.cab,ok.hd,ok.frames,ok.stk,ok.exf,ok.bs,ok.bsz,ok.noex,ok.exfs,ok.funs,ok.frf⟩
theorem Cx.Ok.unwish {X:Cx}{E:Dz}(ok:(X.wish E).Ok):X.Ok:=
 ⟨ok.mod,ok.kind,ok.glob,ok.blt,ok.above,ok.inj,ok.has,ok.cab,ok.hd,ok.frames,ok.stk,ok.exf,ok.bs,ok.bsz,ok.noex,ok.exfs,ok.funs,ok.frf⟩
section
theorem Inv.wish (I:Inv X bA σ H s)(E:Dz):Inv (X.wish E) bA σ H s:=⟨I.ok.wish E,I.os,I.bare,I.base,I.loc,I.cell,I.free,I.freeC,I.pin,I.hok,I.len⟩
theorem Inv.unwish (I:Inv (X.wish E) bA σ H s):Inv X bA σ H s:=⟨I.ok.unwish,I.os,I.bare,I.base,I.loc,I.cell,I.free,I.freeC,I.pin,I.hok,I.len⟩
theorem SP.unwish {D:bF7}{f:Flow}{s':Shared}(h:SP (X.wish E) bA D f s'):SP X bA D f s':=by
 cases f with
 | next=>obtain⟨w,e,I,q⟩:=h;exact⟨w,e,I.unwish,q⟩
 | brk=>obtain⟨w,e,I,q⟩:=h;exact⟨w,e,I.unwish,q⟩
 | cont=>obtain⟨w,e,I,q⟩:=h;exact⟨w,e,I.unwish,q⟩
 | ret u=>obtain⟨v,w,e,I,r,q⟩:=h;exact⟨v,w,e,I.unwish,r,q⟩
theorem PSs.nox {st:List Stmt}{t:TS}(h:PSs X.nox st t):PSs X st t:=⟨λe s σ H D I w=>
 wpAny_mono (h e s σ H D (I.wish _) w) (λ_ _ q=>q.unwish) λ_ _ z=>False.elim z⟩
end
section
variable {X:Cx}{st:Stmt}{rest:List Stmt}{t u:TS}{e:Expr}{te:TE}{pos:Pos}
def bW9:TS:=λD σ H=>D.nx σ H
def cC0 (t u:TS):TS:=λD σ H=>t {D with nx:=u D} σ H
theorem E1:PSs X [] bW9:=⟨λ_ _ σ H _ I h=>wpAny_execs_nil ⟨σ,H,I,h⟩⟩
theorem A3 (h1:PS X st t)(Y:PSs X rest u):PSs X (st::rest) (cC0 t u):=by
 refine⟨?_⟩;intro w s σ H D I h;refine wpAny_execs_cons (thn (h1 w s σ H {D with nx:=u D} I h) λf U q=>?_)
 cases f with
 | next=>
  obtain⟨J,r,j,q⟩:=q;exact Y w U J r D j q
 | ret v=>exact q
 | brk=>exact q
 | cont=>exact q
theorem A7 (h1:PS X st t):PSs X [st] t:=by
 refine⟨?_⟩;intro w s σ H D I h;refine wpAny_execs_cons (thn (h1 w s σ H D I h) λf r q=>?_)
 cases f with
 | next=>exact wpAny_execs_nil q
 | ret v=>exact q
 | brk=>exact q
 | cont=>exact q
theorem Inv.quiet (I:Inv X bA σ H s):interactive X.env=false:=by simp[interactive,I.ok.kind]
def aE0 (te:TE):TS:=λD σ H=>te σ H λ_ H1=>D.nx σ H1
theorem L8 (Y:PE X e te)(U:swapsWith e none pos.line X.env=pure false:=by rfl):PS X (.Expr e pos) (aE0 te):=by
 refine⟨?_⟩;intro j s σ H D I h;exact wpAny_Expr_any (thn (Y j s σ H _ I h) λv N ⟨x,w,r,M,J⟩=>⟨σ,w,r,J⟩) I.quiet U
def bZ1 (te:TE):TS:=λD σ H=>te σ H D.rt
theorem B7 (Y:PE X e te):PS X (.Return (some e) pos) (bZ1 te):=by
 refine⟨?_⟩;intro j s σ H D I h;exact wpAny_Return_some (thn (Y j s σ H _ I h) λv M ⟨x,w,r,J,U⟩=>⟨x,σ,w,r,J,U⟩)
def bN3 (c:TT)(t u:TS):TS:=λD σ H=>c σ H λb H1=>if b=true then t D σ H1 else u D σ H1
theorem L6 (N:PT X c tc)(J:PSs X a t)(M:PSs X b u):PS X (.If c a b pos) (bN3 tc t u):=by
 refine⟨?_⟩;intro w s σ H D I h;refine wpAny_If (thn (N w s σ H _ I h) λd U ⟨r,j,Y⟩=>?_)
 cases d with
 | true=>exact J w U σ r D j Y
 | false=>exact M w U σ r D j Y
def eO1:TS:=λ_ _ _=>False
theorem dD8:PSs X sts eO1:=⟨λ_ _ _ _ _ _ h=>h.elim⟩
end
abbrev TG:=V->St->Hp->(St->Hp->Prop)->Prop
abbrev TGs:=List V->St->Hp->(St->Hp->Prop)->Prop
structure PG (X:Cx)(target:Expr)(t:TG):Prop where
 mk ::
 run :
  ∀(bA:Eb) (s:Shared) (σ:St) (H:Hp) (v:V) (u:Value) (Q:St->Hp->Prop),Inv X bA σ H s->RelV v u->t v σ H Q ->
   wpAny (model X.prog X.w) X.A (assign target X.env u) (λ_ s'=>∃σ' H',Inv X bA σ' H' s'/\Q σ' H') X.xe s
instance {X:Cx} {target:Expr} {t:TG}:CoeFun (PG X target t) λ_=>
 (∀(bA:Eb) (s:Shared) (σ:St) (H:Hp) (v:V) (u:Value) (Q:St->Hp->Prop),Inv X bA σ H s->RelV v u->t v σ H Q ->
  wpAny (model X.prog X.w) X.A (assign target X.env u) (λ_ s'=>∃σ' H',Inv X bA σ' H' s'/\Q σ' H') X.xe s):=⟨PG.run⟩
structure PGs (X:Cx)(ts:AM)(t:TGs):Prop where
 mk ::
 run :
  ∀(bA:Eb) (s:Shared) (σ:St) (H:Hp) (vs:List V) (us:AG) (Q:St->Hp->Prop),Inv X bA σ H s->Vals vs us->t vs σ H Q ->
   wpAny (model X.prog X.w) X.A (assignInOrder ((assignEach ts X.env).map (·.2)) us) (λ_ s'=>∃σ' H',Inv X bA σ' H' s'/\Q σ' H') X.xe s
instance {X:Cx} {ts:AM} {t:TGs}:CoeFun (PGs X ts t) λ_=>
 (∀(bA:Eb) (s:Shared) (σ:St) (H:Hp) (vs:List V) (us:AG) (Q:St->Hp->Prop),Inv X bA σ H s->Vals vs us->t vs σ H Q ->
  wpAny (model X.prog X.w) X.A (assignInOrder ((assignEach ts X.env).map (·.2)) us) (λ_ s'=>∃σ' H',Inv X bA σ' H' s'/\Q σ' H') X.xe s):=⟨PGs.run⟩
abbrev eU4:=V->V->V->Hp->(Hp->Prop)->Prop
def eR9 (X:Cx)(t:eU4):Prop:=
 ∀(bA:Eb) (s:Shared) (σ:St) (H:Hp) (o i v:V) (ov iv u:Value) (Q:Hp->Prop),Inv X bA σ H s->RelV o ov->RelV i iv->RelV v u->t o i v H Q ->
  wpAny (model X.prog X.w) X.A (setItem ov iv u) (λ_ s'=>∃H',Inv X bA σ H' s'/\Q H') X.xe s
abbrev TIp:=V->V->Hp->VK->Prop
section
def M8 (i:Nat):TG:=λv σ H Q=>Q (σ.set i (some v)) H
theorem R5 (w:X.N.Nodup)(hi:X.N[i]? = some x)(Y:Loc X.env.scope x)(j:X.fn x=true\/X.env.scope.names.lookup x=some .local:=by first | exact .inl rfl | exact .inr rfl | assumption):PG X (.Name x pos) (M8 i):=by
 refine⟨?_⟩;intro U s σ H v u Q I r h;exact wpAny_assign_Name (aY5 I w hi Y r (λJ e=>⟨_,H,e,h⟩) j)
def dC0:TGs:=λvs σ H Q=>vs=[]/\Q σ H
def bQ7 (t:TG)(u:TGs):TGs:=λvs σ H Q=>∃v r,vs=v::r/\t v σ H λσ' H'=>u r σ' H' Q
theorem bJ8:PGs X [] dC0:=by
 refine⟨?_⟩;intro w s σ H vs j Q I r h;obtain⟨e,h⟩:=h;subst e;cases r;exact assignInOrder_nil ⟨σ,H,I,h⟩
theorem a9 (h1:PG X e t)(J:PGs X es u)
  (M:(assignEach (e::es) X.env).map (·.2)=assign e X.env::(assignEach es X.env).map (·.2):=by rfl):PGs X (e::es) (bQ7 t u):=by
 refine⟨?_⟩;intro w s σ H vs B Q I r h;obtain⟨v,P,U,h⟩:=h;subst U;cases r with
 | cons r rr=>
  rw[M];refine assignInOrder_cons (thn (h1 w s σ H _ _ _ I r h) λ_ R ⟨F,j,Y,N⟩=>?_)
  exact J w R F j _ _ Q Y rr N
def dY2 (K:Frag)(n:Nat)(t:TGs):TG:=λv σ H Q=>∃a xs,v=.ref a/\SqT K H a xs/\xs.length=n/\t xs σ H Q
theorem cD4 (R:X.calm=true)(h:PGs X es t)
  (B:(assignEach es X.env).length=n:=by rfl) (w:(assignEach es X.env).findIdx? (·.1)=none:=by rfl):PG X (.Tuple es k pos) (dY2 X.K n t):=by
 refine⟨?_⟩;intro Y s σ H v u Q I r j;obtain⟨a,xs,M,P,F,j⟩:=j;subst M;cases r;obtain⟨its,U,ht,hz⟩:=I.tuple P;refine assign_Tuple_tuple (I.ok.hd R) ht (by simp[B,<- F,U.length]) w λN hx=>?_
 have J:Inv X Y σ H {s with heap:=N}:=I.kept (t':=s.toks) λb o e=>hx b o (Ab9 (Ab3 e)) e
 exact h Y _ σ H xs _ Q J (by simpa using U) j
def dZ5 (to ti:TE)(t:eU4):TG:=λv σ H Q=>to σ H λo H1=>ti σ H1 λi H2=>t o i v H2 λH3=>Q σ H3
theorem aK5 (ho:PE X o to)(hi:PE X i ti)(R:eR9 X t)
  (N:∀v,assign (.Subscript o i pos) X.env v=(do
   let ov <- holding [v] (eval o X.env)
   let iv <- holding [v,ov] (eval i X.env)
   standAt pos
   holding [v,ov,iv] (setItem ov iv v)
   release [v,ov,iv] []):=by intro _;rfl):PG X (.Subscript o i pos) (dZ5 to ti t):=by
 refine⟨?_⟩;intro e s σ H v u Q I r h;rw[N];refine Aa (Ce (thn (ho e s σ H _ I h) λov s1 ⟨x,w,U,r1,F⟩=>?_))
 refine Aa (Ce (thn (hi e s1 σ w _ U F) λiv s2 ⟨y,j,J,r2,B⟩=>?_))
 refine Aa (wpAny_standAt (Aa (Ce (thn (R e s2 σ j x y v ov iv u _ J r1 r2 r B) λ_ s3 ⟨Y,M,P⟩=>?_))))
 exact wpAny_release ⟨σ,Y,M,P⟩
def u8 (te:TE)(g:TG):TS:=λD σ H=>te σ H λx H1=>g x σ H1 D.nx
theorem aB2 (Y:PE X e te)(U:PG X tg g)(J:swapsWithSole [tg] e pos.line X.env=pure false:=by rfl)(M:swappedStores [tg] e X.env=pure none:=by rfl)
  (h1:(assignEach [tg] X.env).map (·.2)=[assign tg X.env]:=by rfl):PS X (.Assign [tg] e pos) (u8 te g):=by
 refine⟨?_⟩;intro w s σ H D I h;refine wpAny_Assign_stores (thn (Y w s σ H _ I h) λv Q ⟨x,r,j,R,N⟩=>?_) J M
 rw[h1];exact thn (U w Q σ r x v _ j R N) λ_ F q=>q
theorem cE7 (U:X.N.Nodup)(hi:X.N[i]? = some x)(Q:Loc X.env.scope x)(J:PE X e te)(R:swapsWith e (some (.Name x pos')) pos.line X.env=pure false:=by rfl)(M:X.fn x=true\/X.env.scope.names.lookup x=some .local:=by first | exact .inl rfl | exact .inr rfl | assumption) :
  PS X (.Assign [.Name x pos'] e pos) (u8 te (M8 i)):=by
 refine⟨?_⟩;intro Y s σ H D I h;refine wpAny_Assign_Name (thn (J Y s σ H _ I h) λv P ⟨y,w,r,B,F⟩=>?_) R
 exact aY5 r U hi Q B (λs2 j=>⟨_,w,j,F⟩) M
end
section
def dT5 (c:TT)(tb:TS):TS:=λD σ H=>∃W:Nat->St->Hp->Prop,(∃m,W m σ H)/\∀m σ H,W m σ H ->
 c σ H λb H1=>if b=true then ∃N:St->Hp->Prop,(∀σ' H',N σ' H'->∃m',m'<m/\W m' σ' H')/\tb {D with nx:=N,ct:=N,bk:=D.nx} σ H1 else D.nx σ H1
theorem bL8 (hp:PassesOwn (model X.prog X.w) X.A X.env X.xe)(hc:PT X c tc)(hb:PSs X body tb):PS X (.While c body [] pos) (dT5 tc tb):=by
 refine⟨?_⟩;intro R s σ H D I h;obtain⟨W,⟨m0,w0⟩,r⟩:=h;refine wpAny_While (codeAny_whileLoop (λn s'=>∃σ' H',Inv X R σ' H' s'/\W n σ' H') ?_ m0 ⟨σ,H,I,w0⟩)
 rintro n s1 ⟨J,H1,I1,w1⟩;refine wpAny_passesOwn hp (thn (hc R s1 J H1 _ I1 (r n J H1 w1)) λb s2 ⟨H2,I2,Y⟩=>?_)
 cases b with
 | true=>
  obtain⟨N,hN,Y⟩:=Y;rw[Ac rfl];refine wpAny_passesOwn hp (thn (hb R s2 J H2 _ I2 Y) λf s3 U=>?_)
  cases f with
  | next=>
   obtain⟨j,e,M,B⟩:=U;obtain⟨F,Q,P⟩:=hN j e B;exact⟨F,Q,j,e,M,P⟩
  | cont=>
   obtain⟨j,e,M,B⟩:=U;obtain⟨F,Q,P⟩:=hN j e B;exact⟨F,Q,j,e,M,P⟩
  | brk=>exact U
  | ret v=>exact U
 | false=>
  rw[Ab Ah];exact wpAny_execs_nil ⟨J,H2,I2,Y⟩
end
structure It where
 go:Nat->Hp->Prop
 yld:Nat->Hp->V->Hp->Prop
 stop:Nat->Hp->Prop
def bQ5 (X:Cx)(bA:Eb)(H:Hp)(b:Addr):Prop:=
 H b=none/\b≠X.env.locals/\b∉X.fs/\(b∈X.ex\/X.s₀.heap.objs.size<=b)/\(∀x c,X.env.cells.lookup x=some c->c≠b)/\∀p∈X.pn++bA,p.1≠b
theorem Inv.fpOk (I:Inv X bA σ H s)(w:s.heap.objs.size<=b)(r:H' b=none):bQ5 X bA H' b:=by
 refine⟨r,Nat.ne_of_gt (Ab8 I.lt w),I.nofs w,.inr (Bd I.sz w),λx c e z=>?_,λp hp z=>?_⟩
 .obtain⟨v,q⟩:=I.cell x c e;exact absurd (Ab8 q.lt (by rw[z];exact w)) (Ad9 _)
 .exact absurd (Ab8 (Ab3 (I.pin p hp).1) (by rw[z];exact w)) (Ad9 _)
structure cQ3 (P:Program)(w:World)(K:Frag)(tg:Expr)(J:It)(fp:AL)(it:Addr)(tn:Nat->Heap->Prop):Prop where
 mem:it∈fp
 obj:∀i h,tn i h->∀b∈fp,∃o,h.get? b=some o/\∀v,o.data≠.cell v
 keep:∀i h h',tn i h->(∀b∈fp,∀o,h.get? b=some o->h'.get? b=some o)->tn i h'
 item:∀(X:Cx),X.prog=P->X.w=w->X.K=K->X.calm=true->∀(i:Nat) (bA:Eb) (s:Shared) (σ:St) (H:Hp) (E:Dz),Inv X bA σ H s->(∀b∈fp,bQ5 X bA H b)->tn i s.heap->J.go i H ->
  wpAny (model P w) X.A (pyNext (.ref it)) (λr s1=>∃u,r=some u /\
   wpAny (model P w) X.A (letOwnedTupleGo tg (.ref it) u) (λ_ s2=>∃x H',Inv X bA σ H' s2/\RelV x u/\J.yld i H x H'/\tn (i+1) s2.heap/\∀b∈fp,H' b=none) E s1) E s
 done:∀(X:Cx),X.prog=P->X.w=w->X.K=K->X.calm=true->∀(i:Nat) (bA:Eb) (s:Shared) (σ:St) (H:Hp) (E:Dz),Inv X bA σ H s->(∀b∈fp,bQ5 X bA H b)->tn i s.heap->J.stop i H ->
  wpAny (model P w) X.A (pyNext (.ref it)) (λr s1=>r=none/\Inv X bA σ H s1) E s
 self:∀(A:Around) (i:Nat) (s:Shared) (Q:Dz) (E:Dz),tn i s.heap->Q (.ref it) s->wpAny (model P w) A (pyIter (.ref it)) Q E s
abbrev TI:=St->Hp->(It->Hp->Prop)->Prop
def PIE (X:Cx)(bA:Eb)(σ:St)(tg:Expr)(R:It->Hp->Prop)(itv:Value)(s2:Shared):Prop:=
 ∃(it:Addr) (fp:AL) (tn:Nat->Heap->Prop) (J:It) (H':Hp),itv=.ref it/\Inv X bA σ H' s2/\cQ3 X.prog X.w X.K tg J fp it tn/\tn 0 s2.heap/\(∀b∈fp,bQ5 X bA H' b)/\R J H'
structure PI (X:Cx)(tg iter:Expr)(wi:TI):Prop where
 mk ::
 run :
  ∀(bA:Eb) (s:Shared) (σ:St) (H:Hp) (R:It->Hp->Prop),Inv X bA σ H s->wi σ H R ->
   wpAny (model X.prog X.w) X.A (eval iter X.env) (λv s1=>wpAny (model X.prog X.w) X.A (pyIter v) (PIE X bA σ tg R) X.xe s1) X.xe s
instance {X:Cx} {tg iter:Expr} {wi:TI}:CoeFun (PI X tg iter wi) λ_=>
 (∀(bA:Eb) (s:Shared) (σ:St) (H:Hp) (R:It->Hp->Prop),Inv X bA σ H s->wi σ H R ->
  wpAny (model X.prog X.w) X.A (eval iter X.env) (λv s1=>wpAny (model X.prog X.w) X.A (pyIter v) (PIE X bA σ tg R) X.xe s1) X.xe s):=⟨PI.run⟩
theorem dJ4 (ho:s.heap.get? it=some o)(w:o.cls=.type n)(r:o.data=.fields vs)
  (j:["enumerate", "zip", "dict_itemiterator", "dict_reverseitemiterator", "odict_iterator", "itertools.zip_longest", "itertools.pairwise"].contains n=false) (e:Q () s):wpAny M A (letOwnedTupleGo tg (.ref it) u) Q E s:=by
 unfold letOwnedTupleGo;cases tg <;> first
  | exact Ae e
  | (cases u <;> first
    | exact Ae e
    | (refine Aa (wpAny_load ho ?_)
       rw[w,r];show wpAny M A (if(["enumerate", "zip", "dict_itemiterator", "dict_reverseitemiterator", "odict_iterator", "itertools.zip_longest", "itertools.pairwise"].contains n&&vs[0]? == some (rawInt _))=true then _ else _) Q E s;rw[Ab (by intro h;rw[j,Bool.false_and]at h;cases h)]
       exact Ae e))
def Itl (K:Frag)(a:Addr):It:=
 ⟨λi H=>∃xs x,SqL K H a xs/\xs[i]? = some x,λi H x H'=>H'=H/\∀xs,SqL K H a xs->xs[i]? = some x,λi H=>∃xs,SqL K H a xs/\xs.length<=i⟩
def Itt (K:Frag)(a:Addr):It:=
 ⟨λi H=>∃xs x,SqT K H a xs/\xs[i]? = some x,λi H x H'=>H'=H/\∀xs,SqT K H a xs->xs[i]? = some x,λi H=>∃xs,SqT K H a xs/\xs.length<=i⟩
def Itr (lo:Int)(n:Nat):It:=⟨λi _=>i<n,λi H x H'=>H'=H/\x=.int (lo+i),λi _=>n<=i⟩
theorem cZ9 {P:Program}{w:World}{K:Frag}{tg:Expr}(a it:Addr):cQ3 P w K tg (Itl K a) [it] it (λi h=>h.IsListIter it a i) where
 mem:=by simp
 obj:=λi h r b j=>by
  have e:b=it:=by simpa using j
  subst e;obtain⟨o,e,c,d⟩:=r;exact⟨o,e,λv z=>by rw[d]at z;cases z⟩
 keep:=λi h U r k=>r.at λo e=>k it (by simp) o e
 item:=by
  intro X B hw F hc i bA s σ H E I J r hg;subst B hw F;obtain⟨xs,x,M,hx⟩:=hg;obtain⟨its,rv,p,hz⟩:=I.list M;obtain⟨u,hu,ru⟩:=rv.get hx;obtain⟨N,f1,f2,f3,R,Q⟩:=J it (by simp)
  refine wpAny_pyNext_list_item r p.isList (x:=u) (by simpa using hu) λU Y sb=>?_
  have I1:Inv X bA σ H {s with heap:=U}:=I.turned (t':=s.toks) (λb o j e=>(sb.2 b j).trans e) N f1 f3 R Q
  obtain⟨o,e,c,d⟩:=id Y;exact⟨u,rfl,dJ4 (s:={s with heap:=U}) e c d (by decide) ⟨x,H,I1,ru,⟨rfl,λys hy=>by rw[I.list_inj hy M];exact hx⟩,Y,λb j=>(J b j).1⟩⟩
 done:=by
  intro X B hw F hc i bA s σ H E I J r hg;subst B hw F;obtain⟨xs,M,hx⟩:=hg;obtain⟨its,rv,p,hz⟩:=I.list M;obtain⟨N,f1,f2,f3,R,Q⟩:=J it (by simp)
  have hl:=rv.length
  exact wpAny_pyNext_list_end (I.ok.hd hc) r p.isList (by simp;lia) λU eb=>⟨rfl,I.turned (t':=s.toks) (λb o j e=>eb b o j e) N f1 f3 R Q⟩
 self:=λ_ _ _ _ _ r h=>wpAny_pyIter_listiter r h
theorem cS6 {P:Program}{w:World}{K:Frag}{tg:Expr}(a it:Addr):cQ3 P w K tg (Itt K a) [it] it (λi h=>h.IsTupleIter it a i) where
 mem:=by simp
 obj:=λi h r b j=>by
  have e:b=it:=by simpa using j
  subst e;obtain⟨o,e,c,d⟩:=r;exact⟨o,e,λv z=>by rw[d]at z;cases z⟩
 keep:=λi h U r k=>r.at λo e=>k it (by simp) o e
 item:=by
  intro X B hw F hc i bA s σ H E I J r hg;subst B hw F;obtain⟨xs,x,M,hx⟩:=hg;obtain⟨its,rv,p,hz⟩:=I.tuple M;obtain⟨u,hu,ru⟩:=rv.get hx;obtain⟨N,f1,f2,f3,R,Q⟩:=J it (by simp)
  refine wpAny_pyNext_tuple_item r (show s.heap.IsTuple a its.toArray from p) (x:=u) (by simpa using hu) λU Y sb=>?_
  have I1:Inv X bA σ H {s with heap:=U}:=I.turned (t':=s.toks) (λb o j e=>(sb.2 b j).trans e) N f1 f3 R Q
  obtain⟨o,e,c,d⟩:=id Y;exact⟨u,rfl,dJ4 (s:={s with heap:=U}) e c d (by decide) ⟨x,H,I1,ru,⟨rfl,λys hy=>by rw[I.tuple_inj hy M];exact hx⟩,Y,λb j=>(J b j).1⟩⟩
 done:=by
  intro X B hw F hc i bA s σ H E I J r hg;subst B hw F;obtain⟨xs,M,hx⟩:=hg;obtain⟨its,rv,p,hz⟩:=I.tuple M;obtain⟨N,f1,f2,f3,R,Q⟩:=J it (by simp)
  have hl:=rv.length
  exact wpAny_pyNext_tuple_end (I.ok.hd hc) r (show s.heap.IsTuple a its.toArray from p) (by simp;lia) λU eb=>⟨rfl,I.turned (t':=s.toks) (λb o j e=>eb b o j e) N f1 f3 R Q⟩
 self:=λ_ _ _ _ _ r h=>wpAny_pyIter_tupleiter r h
theorem cR5 {P:Program}{w:World}{K:Frag}{tg:Expr}(it:Addr)(lo:Int)(n:Nat):cQ3 P w K tg (Itr lo n) [it] it (λi h=>IsRangeIter h it (lo+(i:Nat)*1) ((n:Int)-(i:Nat)) 1) where
 mem:=by simp
 obj:=λi h r b j=>by
  have e:b=it:=by simpa using j
  subst e;exact⟨_,r,λv z=>by
   have z':Data.fields _=Data.cell v:=z
   cases z'⟩
 keep:=λi h U r k=>k it (by simp) _ r
 item:=by
  intro X F hw Q B i bA s σ H E I J r hg;subst F hw Q;obtain⟨M,f1,f2,f3,N,R⟩:=J it (by simp)
  have W:=Walks.range (prog:=X.prog) (w:=X.w) (I.ok.hd B) it lo 1 n
  refine W.item i s _ _ hg r λv U tk hv Y kk=>?_
  obtain⟨t,rfl⟩:=hv;have I1:Inv X bA σ H {s with heap:=U,toks:=tk}:=I.turned (λb o j e=>kk b o (by simpa using j) e) M f1 f3 N R
  refine⟨_,rfl,dJ4 (s:={s with heap:=U,toks:=tk}) (n := "range_iterator") Y rfl rfl (by decide) ⟨.int (lo+i),H,I1,⟨t,?_⟩,⟨rfl,rfl⟩,Y,λb j=>(J b j).1⟩⟩
  rw[Int.mul_one]
 done:=by
  intro X F hw Q B i bA s σ H E I J r hg;subst F hw Q;obtain⟨M,f1,f2,f3,N,R⟩:=J it (by simp)
  exact wpAny_pyNext_range_end (I.ok.hd B) r (by have:n<=i:=hg;lia) λU eb=>⟨rfl,I.turned (t':=s.toks) (λb o j e=>eb b o j e) M f1 f3 N R⟩
 self:=λ_ _ _ _ _ r h=>wpAny_pyIter_rangeiter r h
section
def dP2 (K:Frag)(tl:TE):TI:=λσ H R=>tl σ H λx H1=>∃a,x=.ref a/\(∃xs,SqL K H1 a xs)/\R (Itl K a) H1
def eG4 (K:Frag)(tl:TE):TI:=λσ H R=>tl σ H λx H1=>∃a,x=.ref a/\(∃xs,SqT K H1 a xs)/\R (Itt K a) H1
theorem aA4 {l:Expr}{tl:TE}(J:PE X l tl):PI X tg l (dP2 X.K tl):=by
 refine⟨?_⟩;intro Y s σ H R I h;refine thn (J Y s σ H _ I h) λv r ⟨x,j,w,Q,N⟩=>?_
 obtain⟨a,e,⟨xs,M⟩,q⟩:=N;subst e;cases Q;obtain⟨its,B,p,F⟩:=w.list M;refine wpAny_pyIter_list p.isList ?_;refine⟨r.heap.objs.size,[r.heap.objs.size],_,_,j,rfl,w.kept (t':=r.toks) λb o e=>Aa6 _ e,cZ9 a _,⟨_,Ac3 _ rfl,rfl,rfl⟩,λb U=>?_,q⟩
 have e:b=r.heap.objs.size:=by simpa using U
 subst e;exact w.fpOk (Aa7 _) (w.hok.fresh (Aa7 _))
theorem aN4 {l:Expr}{tl:TE}(J:PE X l tl):PI X tg l (eG4 X.K tl):=by
 refine⟨?_⟩;intro Y s σ H R I h;refine thn (J Y s σ H _ I h) λv w ⟨x,j,r,Q,N⟩=>?_
 obtain⟨a,e,⟨xs,M⟩,q⟩:=N;subst e;cases Q;obtain⟨its,B,p,F⟩:=r.tuple M;refine wpAny_pyIter_tuple (show w.heap.IsTuple a its.toArray from p) ?_
 refine⟨w.heap.objs.size,[w.heap.objs.size],_,_,j,rfl,r.kept (t':=w.toks) λb o e=>Aa6 _ e,cS6 a _,⟨_,Ac3 _ rfl,rfl,rfl⟩,λb U=>?_,q⟩
 have e:b=w.heap.objs.size:=by simpa using U
 subst e;exact r.fpOk (Aa7 _) (r.hok.fresh (Aa7 _))
theorem dK9 {bA:Eb}{σ:St}{H:Hp}{s:Shared}{R:It->Hp->Prop}{E:Dz}{lo hi:Int}{t u v:Tok}{tk:Nat}(I:Inv X bA σ H s)(h1 : -(2^62)<=lo)(U:lo<2^62)(J : -(2^62)<=hi)(M:hi<2^62)
  (q:R (Itr lo (hi-lo).toNat) H):wpAny (model X.prog X.w) X.A (pyIter (.ref s.heap.objs.size)) (PIE X bA σ tg R) E {s with heap:=s.heap.push {cls:=.type "range",data:=.fields #[.int lo t,.int hi u,.int 1 v]},toks:=tk}:=by
 refine wpAny_pyIter_range (IsRange.new ..) (small_one h1 U J M) ?_;have r:Inv X bA σ H {s with heap:=s.heap.push {cls:=.type "range",data:=.fields #[.int lo t,.int hi u,.int 1 v]},toks:=tk}:=I.kept λb o e=>Aa6 _ e
 refine⟨(s.heap.push {cls:=.type "range",data:=.fields #[.int lo t,.int hi u,.int 1 v]}).objs.size,[(s.heap.push {cls:=.type "range",data:=.fields #[.int lo t,.int hi u,.int 1 v]}).objs.size],_,_,H,rfl,
  r.kept (t':=tk) λb o e=>Aa6 _ e,cR5 _ lo (hi-lo).toNat,?_,λb N=>?_,q⟩
 .have j:lo+((0:Nat):Int)*1=lo:=by simp
  have Y:(((hi-lo).toNat:Nat):Int)-((0:Nat):Int)=Builtin.Range.rangeSize lo hi 1:=by rw[rangeSize_one];split <;> lia
  show IsRangeIter _ _ (lo+((0:Nat):Int)*1) ((((hi-lo).toNat:Nat):Int)-((0:Nat):Int)) 1
  rw[j,Y];exact Ac3 _ rfl
 .have e:b=(s.heap.push {cls:=.type "range",data:=.fields #[.int lo t,.int hi u,.int 1 v]}).objs.size:=by simpa using N
  subst e;exact r.fpOk (Aa7 _) (r.hok.fresh (Aa7 _))
def eD6 (ta:TA):TI:=λσ H R=>ta σ H λvs H1=>∃j:Int,vs=[.int j] /\ -(2^62)<=j/\j<2^62/\R (Itr 0 j.toNat) H1
theorem N1 {a:Expr}{ta:TA}{p pos:Pos}(M:Gl X "range")(N:X.mg "range" = none)(J:PA X [a] ta)(Q:starEach [a] X.env=[(false,eval a X.env)]:=by rfl):PI X tg (.Call (.Name "range" p) [a] [] pos) (eD6 ta):=by
 refine⟨?_⟩;intro U s σ H R I h;refine Call_ (aO1 I M N boot_range (Bs (thn (J pos U s σ H _ I h) λus s1 ⟨vs,P,Y,B,w⟩=>?_) Q rfl))
 obtain⟨j,e,w,F,q⟩:=w;subst e;cases B with
 | cons r rr=>
  cases rr
  obtain⟨t,rfl⟩:=r;exact call_range_1 (dK9 Y (by lia) (by lia) w F (by simpa using q))
def eT0 (wi:TI)(g:TG)(tb:TS):TS:=λD σ H=>wi σ H λJ H1=>∃W:Nat->Nat->St->Hp->Prop,(∃m,W 0 m σ H1)/\∀i m σ H,W i m σ H ->
 (J.stop i H/\D.nx σ H)\/(J.go i H/\∃N:St->Hp->Prop,(∀σ' H',N σ' H'->∃m',m'<m/\W (i+1) m' σ' H')/\∀x H',J.yld i H x H'->g x σ H' λσ2 H2=>tb {D with nx:=N,ct:=N,bk:=D.nx} σ2 H2)
def aE7 (fp:AL)(h:Heap):List (Addr×Obj):=fp.filterMap λb=>(h.get? b).map λo=>(b,o)
theorem aH7 (w:b∈fp)(e:h.get? b=some o):(b,o)∈aE7 fp h:=List.mem_filterMap.mpr ⟨b,w,by rw[e];rfl⟩
theorem bW2 (hp:p∈aE7 fp h):p.1∈fp/\h.get? p.1=some p.2:=by
 obtain⟨b,w,e⟩:=List.mem_filterMap.mp hp;cases q:h.get? b with
 | none=>rw[q]at e;cases e
 | some o=>
  rw[q]at e;have e':(b,o)=p:=Ab4 e;subst e';exact⟨w,q⟩
theorem Inv.pinned (I:Inv X bA σ H s)(j:∀b∈fp,bQ5 X bA H b)(ho:∀b∈fp,∃o,s.heap.get? b=some o/\∀v,o.data≠.cell v):Inv X (bA++aE7 fp s.heap) σ H s:=
 I.pins_of λp hp=>(Aa0.mp hp).elim (λz=>I.pin p (Ac1 _ z)) λz=>by
  obtain⟨w,e⟩:=bW2 z;obtain⟨r,f1,f2,_⟩:=j p.1 w;obtain⟨o,e',d⟩:=ho p.1 w;rw[e]at e';cases e';exact⟨e,r,f1,f2,d⟩
theorem Inv.unpinned (I:Inv X (bA++pl) σ H s):Inv X bA σ H s:=I.pins_of λp hp=>I.pin p (Ac1 _ (Bo _ hp))
theorem S4 (hp:PassesOwn (model X.prog X.w) X.A X.env X.xe)(hc:X.calm=true)(hi:PI X tg iter wi)(hg:PG X tg g)(M:PSs X body tb)
  (hs:∀x,foldedSetIterable iter X.env x=pure x:=by intro _;rfl):PS X (.For tg iter body [] pos) (eT0 wi g tb):=by
 refine⟨?_⟩;intro P s σ H D I h;refine wpAny_For (thn (hi P s σ H _ I h) λv s1 h1=>thn h1 λitv s2 h2=>?_) hs
 obtain⟨it,fp,tn,J,H2,e,I2,T,st2,f2,W,⟨m0,w0⟩,turn⟩:=h2;subst e;have R:∀{F:Hp},(∀b∈fp,F b=none)->∀b∈fp,bQ5 X P F b:=λhn b M=>⟨hn b M,(f2 b M).2⟩
 refine codeAny_forLoop_any (λn s'=>∃i σ' F,Inv X P σ' F s'/\tn i s'.heap/\(∀b∈fp,F b=none)/\W i n σ' F) ?_ m0 ⟨0,σ,H2,I2,st2,λb M=>(f2 b M).1,w0⟩
 rintro n s3 ⟨i,σ3,H3,I3,st3,fr3,w3⟩;rcases turn i n σ3 H3 w3 with⟨stop,qn⟩ | ⟨go,N,hN,step⟩
 .refine wpAny_passesOwn hp (thn (T.done X rfl rfl rfl hc i P s3 σ3 H3 X.xe I3 (R fr3) st3 stop) λr s4 ⟨hr,I4⟩=>?_)
  subst hr;exact wpAny_execs_nil ⟨σ3,H3,I4,qn⟩
 .refine wpAny_passesOwn hp (thn (T.item X rfl rfl rfl hc i P s3 σ3 H3 X.xe I3 (R fr3) st3 go) λr s4 ⟨u,hr,h4⟩=>?_)
  subst hr;refine wpAny_passesOwn hp (thn h4 λ_ s5 ⟨x,H5,I5,r5,y5,st5,fr5⟩=>?_)
  have I5':=I5.pinned (R fr5) (T.obj _ _ st5)
  refine wpAny_passesOwn hp (thn (hg _ s5 σ3 H5 x u _ I5' r5 (step x H5 y5)) λ_ s6 ⟨σ6,H6,I6,q6⟩=>?_)
  refine wpAny_passesOwn hp (thn (M _ s6 σ6 H6 _ I6 q6) λf s7 B=>?_)
  have U:∀{Q:St} {j:Hp},Inv X (P++aE7 fp s5.heap) Q j s7->N Q j->∃m,m<n/\∃i σ' F,Inv X P σ' F s7/\tn i s7.heap/\(∀b∈fp,F b=none)/\W i m σ' F:=λ{Q j} Y n7=>by
   obtain⟨m',hm,w7⟩:=hN Q j n7;refine⟨m',hm,i+1,Q,j,Y.unpinned,T.keep _ _ _ st5 λb M o e=>(Y.pin (b,o) (Ac1 _ (Ac1 _ (aH7 M e)))).1,λb M=>?_,w7⟩
   obtain⟨o,e,d⟩:=T.obj _ _ st5 b M;exact(Y.pin (b,o) (Ac1 _ (Ac1 _ (aH7 M e)))).2.1
  cases f with
  | next=>obtain⟨Q,j,Y,n7⟩:=B;exact U Y n7
  | cont=>obtain⟨Q,j,Y,n7⟩:=B;exact U Y n7
  | brk=>obtain⟨Q,j,Y,B⟩:=B;exact⟨Q,j,Y.unpinned,B⟩
  | ret v=>obtain⟨x7,Q,j,Y,r7,B⟩:=B;exact⟨x7,Q,j,Y.unpinned,r7,B⟩
end
abbrev R2:=V->V->Hp->VK->Prop
def OpR (X:Cx)(f:Value->Value->Sem Value)(r:R2):Prop:=
 ∀(bA:Eb) (s:Shared) (σ:St) (H:Hp) (x y:V) (v u:Value) (Q:VK),Inv X bA σ H s->RelV x v->RelV y u->r x y H Q ->
  wpAny (model X.prog X.w) X.A (f v u) (EP X bA σ Q) X.xe s
def UnR (X:Cx)(f:Value->Sem Value)(r:V->Hp->VK->Prop):Prop:=
 ∀(bA:Eb) (s:Shared) (σ:St) (H:Hp) (x:V) (v:Value) (Q:VK),Inv X bA σ H s->RelV x v->r x H Q ->
  wpAny (model X.prog X.w) X.A (f v) (EP X bA σ Q) X.xe s
def m6 (X:Cx)(f:Value)(r:List V->Hp->VK->Prop):Prop:=
 ∀(bA:Eb) (s:Shared) (σ:St) (H:Hp) (xs:List V) (us:AG) (Q:VK),Inv X bA σ H s->Vals xs us->r xs H Q ->
  wpAny (model X.prog X.w) X.A (call f us) (EP X bA σ Q) X.xe s
def tOp (r:R2)(ta tb:TE):TE:=λσ H Q=>ta σ H λx H1=>tb σ H1 λy H2=>r x y H2 Q
def tUn (r:V->Hp->VK->Prop)(ta:TE):TE:=λσ H Q=>ta σ H λx H1=>r x H1 Q
def rI (C:Int->Int->Prop)(g:Int->Int->V):R2:=λx y H Q=>∃i j,x=.int i/\y=.int j/\C i j/\Q (g i j) H
def rI0 (g:Int->Int->V):R2:=λx y H Q=>∃i j,x=.int i/\y=.int j/\Q (g i j) H
def rU (g:Int->V):V->Hp->VK->Prop:=λx H Q=>∃i,x=.int i/\Q (g i) H
section
theorem eG6 (j:PE X a ta)(Y:PE X b tb){bA:Eb}{s:Shared}{σ:St}{H:Hp}{R:V->V->Hp->Prop}(I:Inv X bA σ H s)
  (h:ta σ H λx H1=>tb σ H1 λy H2=>R x y H2) {Q:Dz} {f:Value->Value->Sem Value}
  (U:∀v u s2 x y H2,Inv X bA σ H2 s2->RelV x v->RelV y u->R x y H2->wpAny (model X.prog X.w) X.A (f v u) Q X.xe s2) :
  wpAny (model X.prog X.w) X.A (eval a X.env) (λv s₁=>wpAny (model X.prog X.w) X.A (eval b X.env) (λu s₂=>wpAny (model X.prog X.w) X.A (f v u) Q X.xe s₂) X.xe s₁) X.xe s:=by
 refine thn (j bA s σ H _ I h) λv B ⟨x,H1,e,N,J⟩=>?_
 refine thn (Y bA B σ H1 _ e J) λu s2 ⟨y,H2,r,F,M⟩=>?_
 exact U v u s2 x y H2 r N F M
theorem B1 (ho:OpR X (binaryOp op) r)(Y:PE X a ta)(U:PE X b tb):PE X (.BinOp a op b pos) (tOp r ta tb):=by
 refine⟨?_⟩;intro j s σ H Q I h;exact wpAny_BinOp (eG6 Y U I h λv u N x y e w J M q=>ho j N σ e x y v u Q w J M q)
theorem bI6 (ho:UnR X (unaryOp op) r)(Y:PE X a ta):PE X (.UnaryOp op a pos) (tUn r ta):=by
 refine⟨?_⟩;intro e s σ H Q I h;exact UnaryOp_ (thn (Y e s σ H _ I h) λv M ⟨x,w,j,J,U⟩=>ho e M σ w x v Q j J U)
theorem opI {f:Value->Value->Sem Value}{C:Int->Int->Prop}{g:Int->Int->Int}
  (e:∀(i j:Int) (t u:Tok) (s:Shared) (Q:Dz) (E:Dz),C i j->Q (.int (g i j) s.toks) {s with toks:=s.toks+1}->wpAny (model X.prog X.w) X.A (f (.int i t) (.int j u)) Q E s) :
  OpR X f (rI C λi j=>.int (g i j)):=by
 intro M s σ H x y v u Q I Y U h;obtain⟨i,j,rfl,rfl,r,q⟩:=h;obtain⟨t,rfl⟩:=Y;obtain⟨J,rfl⟩:=U;exact e i j t J s _ _ r ⟨.int (g i j),H,I.tok _,⟨_,rfl⟩,q⟩
theorem eR2 {f:Value->Value->Sem Value}{g:Int->Int->Int}
  (e:∀(i j:Int) (t u:Tok) (s:Shared) (Q:Dz) (E:Dz),Q (.int (g i j) s.toks) {s with toks:=s.toks+1}->wpAny (model X.prog X.w) X.A (f (.int i t) (.int j u)) Q E s) :
  OpR X f (rI0 λi j=>.int (g i j)):=by
 intro J s σ H x y v u Q I r Y h;obtain⟨i,j,rfl,rfl,q⟩:=h;obtain⟨t,rfl⟩:=r;obtain⟨U,rfl⟩:=Y;exact e i j t U s _ _ ⟨.int (g i j),H,I.tok _,⟨_,rfl⟩,q⟩
theorem dX2 {f:Value->Value->Sem Value}{g:Int->Int->Bool}
  (e:∀(i j:Int) (t u:Tok) (s:Shared) (Q:Dz) (E:Dz),Q (.bool (g i j)) s->wpAny (model X.prog X.w) X.A (f (.int i t) (.int j u)) Q E s) :
  OpR X f (rI0 λi j=>.bl (g i j)):=by
 intro J s σ H x y v u Q I r Y h;obtain⟨i,j,rfl,rfl,q⟩:=h;obtain⟨t,rfl⟩:=r;obtain⟨U,rfl⟩:=Y;exact e i j t U s _ _ ⟨.bl (g i j),H,I,rfl,q⟩
def eL5 (i j:Int):Prop:=0<j/\j<1073741824
def eX7 (i j:Int):Prop:=0<=j/\j<=1000000/\i.natAbs<2^64
theorem N6:OpR X (binaryOp .Add) (rI0 λi j=>.int (i+j)):=eR2 λ_ _ _ _ _ _ _ q=>add_int q
theorem S2:OpR X (binaryOp .Sub) (rI0 λi j=>.int (i-j)):=eR2 λ_ _ _ _ _ _ _ q=>sub_int q
theorem K4:OpR X (binaryOp .FloorDiv) (rI eL5 λi j=>.int (i / j)):=opI λi j _ _ _ _ _ e q=>by
 have h1:(0:Int)<j:=e.1
 have w:j<1073741824:=e.2
 exact floordiv_int (by lia) (by rw[Int.fdiv_eq_ediv_of_nonneg i (by lia)];exact q) (.inl (PyProof.noPylong_small (by lia)))
theorem J0:OpR X (binaryOp .Mod) (rI (λ_ j=>0<j) λi j=>.int (i % j)):=opI λi j _ _ _ _ _ e q=>by
 have h1:(0:Int)<j:=e
 exact mod_int' (by lia) (by rw[Int.fmod_eq_emod_of_nonneg i (by lia)];exact q)
theorem dE8:OpR X (binaryOp .Pow) (rI eX7 λi j=>.int (i^j.toNat)):=opI λ_ _ _ _ _ _ _ e q=>pow_int_small e.1 e.2.1 e.2.2 q
theorem unI {f:Value->Sem Value}{g:Int->Int}
  (e:∀(i:Int) (t:Tok) (s:Shared) (Q:Dz) (E:Dz),Q (.int (g i) s.toks) {s with toks:=s.toks+1}->wpAny (model X.prog X.w) X.A (f (.int i t)) Q E s) :
  UnR X f (rU λi=>.int (g i)):=by
 intro j s σ H x v Q I r h;obtain⟨i,rfl,q⟩:=h;obtain⟨t,rfl⟩:=r;exact e i t s _ _ ⟨.int (g i),H,I.tok _,⟨_,rfl⟩,q⟩
theorem aI8:UnR X (unaryOp .USub) (rU λi=>.int (-i)):=unI λ_ _ _ _ _ q=>neg_int q
end
def eV3:V->V->Bool
 | .non,.non=>true | .non,.int _=>true | .int _,.non=>true | .non,.bl _=>true | .bl _,.non=>true | .non,.str _=>true | .str _,.non=>true
 | .int _,.int _=>true | .bl _,.bl _=>true | .str _,.str _=>true | .byt _,.byt _=>true
 | .int _,.str _=>true | .str _,.int _=>true | .bl _,.str _=>true | .str _,.bl _=>true
 | _,_=>false
def rEq:R2:=λx y H Q=>eV3 x y=true/\Q (.bl (decide (x=y))) H
def rNe:R2:=λx y H Q=>eV3 x y=true/\Q (.bl (!decide (x=y))) H
theorem cU2:decide (V.int i=V.int j)=(i==j):=by
 rw[Cm]
 simp
theorem dG8:decide (V.bl i=V.bl j)=(i==j):=by
 rw[Cm]
 simp
theorem cU1:decide (V.str i=V.str j)=(i==j):=by
 rw[Cm]
 simp
theorem cW2:decide (V.byt i=V.byt j)=(i.toList==j.toList):=by
 rw[Cm];cases i;cases j
 simp
section
theorem K8 (I:Inv X bA σ H s)(q:Q (.bl k) H)(e:k=k'):EP X bA σ Q (.bool k') s:=by
 subst e;exact⟨.bl k,H,I,rfl,q⟩
theorem aC7:OpR X (compareOp .Eq) rEq:=by
 intro U s σ H x y v u Q I Y e h;obtain⟨r,q⟩:=h;cases x with
 | non=>
  cases Y
  cases y with
  | non=>cases e;exact PySem.EqNone.eq_none_none (K8 I q (by simp))
  | bl j=>cases e;exact PySem.EqNone.eq_none_bool (K8 I q (by simp))
  | int j=>obtain⟨w,rfl⟩:=e;exact PySem.EqNone.eq_none_int (K8 I q (by simp))
  | str j=>obtain⟨w,rfl⟩:=e;exact PySem.EqNone.eq_none_str (K8 I q (by simp))
  | _=>exact absurd (show false=true from r) Ah
 | bl i=>
  cases Y
  cases y with
  | non=>cases e;exact PySem.EqNone.eq_bool_none (K8 I q (by simp))
  | bl j=>cases e;exact eq_bool (K8 I q dG8)
  | str j=>obtain⟨w,rfl⟩:=e;exact PySem.EqMixed.eq_bool_str (K8 I q (by simp))
  | _=>exact absurd (show false=true from r) Ah
 | int i=>
  obtain⟨t,rfl⟩:=Y;cases y with
  | non=>cases e;exact PySem.EqNone.eq_int_none (K8 I q (by simp))
  | int j=>obtain⟨w,rfl⟩:=e;exact eq_int (K8 I q cU2)
  | str j=>obtain⟨w,rfl⟩:=e;exact PySem.EqMixed.eq_int_str (K8 I q (by simp))
  | _=>exact absurd (show false=true from r) Ah
 | str i=>
  obtain⟨t,rfl⟩:=Y;cases y with
  | non=>cases e;exact PySem.EqNone.eq_str_none (K8 I q (by simp))
  | bl j=>cases e;exact PySem.EqMixed.eq_str_bool (K8 I q (by simp))
  | int j=>obtain⟨w,rfl⟩:=e;exact PySem.EqMixed.eq_str_int (K8 I q (by simp))
  | str j=>obtain⟨w,rfl⟩:=e;exact eq_str (K8 I q cU1)
  | _=>exact absurd (show false=true from r) Ah
 | byt i=>
  obtain⟨t,rfl⟩:=Y;cases y with
  | byt j=>obtain⟨w,rfl⟩:=e;exact PySem.W.eq_bytes (K8 I q cW2)
  | _=>exact absurd (show false=true from r) Ah
 | _=>cases y <;> exact absurd (show false=true from r) Ah
theorem bH7:OpR X (compareOp .NotEq) rNe:=by
 intro U s σ H x y v u Q I Y e h;obtain⟨r,q⟩:=h;cases x with
 | non=>
  cases Y
  cases y with
  | non=>cases e;exact PySem.EqNone.ne_none_none (K8 I q (by simp))
  | bl j=>cases e;exact PySem.EqNone.ne_none_bool (K8 I q (by simp))
  | int j=>obtain⟨w,rfl⟩:=e;exact PySem.EqNone.ne_none_int (K8 I q (by simp))
  | str j=>obtain⟨w,rfl⟩:=e;exact PySem.EqNone.ne_none_str (K8 I q (by simp))
  | _=>exact absurd (show false=true from r) Ah
 | bl i=>
  cases Y
  cases y with
  | non=>cases e;exact PySem.EqNone.ne_bool_none (K8 I q (by simp))
  | bl j=>cases e;exact ne_bool (K8 I q (congrArg not dG8))
  | str j=>obtain⟨w,rfl⟩:=e;exact PySem.EqMixed.ne_bool_str (K8 I q (by simp))
  | _=>exact absurd (show false=true from r) Ah
 | int i=>
  obtain⟨t,rfl⟩:=Y;cases y with
  | non=>cases e;exact PySem.EqNone.ne_int_none (K8 I q (by simp))
  | int j=>obtain⟨w,rfl⟩:=e;exact ne_int (K8 I q (congrArg not cU2))
  | str j=>obtain⟨w,rfl⟩:=e;exact PySem.EqMixed.ne_int_str (K8 I q (by simp))
  | _=>exact absurd (show false=true from r) Ah
 | str i=>
  obtain⟨t,rfl⟩:=Y;cases y with
  | non=>cases e;exact PySem.EqNone.ne_str_none (K8 I q (by simp))
  | bl j=>cases e;exact PySem.EqMixed.ne_str_bool (K8 I q (by simp))
  | int j=>obtain⟨w,rfl⟩:=e;exact PySem.EqMixed.ne_str_int (K8 I q (by simp))
  | str j=>obtain⟨w,rfl⟩:=e;exact ne_str (K8 I q (congrArg not cU1))
  | _=>exact absurd (show false=true from r) Ah
 | byt i=>
  obtain⟨t,rfl⟩:=Y;cases y with
  | byt j=>obtain⟨w,rfl⟩:=e;exact PySem.W.ne_bytes (K8 I q (congrArg not cW2))
  | _=>exact absurd (show false=true from r) Ah
 | _=>cases y <;> exact absurd (show false=true from r) Ah
theorem aR2:OpR X (compareOp .Lt) (rI0 λi j=>.bl (decide (i<j))):=dX2 λ_ _ _ _ _ _ _ q=>lt_int q
theorem eV1:OpR X (compareOp .LtE) (rI0 λi j=>.bl (decide (i<=j))):=dX2 λ_ _ _ _ _ _ _ q=>le_int q
theorem cG7:OpR X (compareOp .Gt) (rI0 λi j=>.bl (decide (j<i))):=dX2 λ_ _ _ _ _ _ _ q=>gt_int q
theorem dN7:OpR X (compareOp .GtE) (rI0 λi j=>.bl (decide (j<=i))):=dX2 λ_ _ _ _ _ _ _ q=>ge_int q
theorem eH4:OpR X (compareOp .Is) (λx y H Q=>y=.non/\Q (.bl (decide (x=.non))) H):=by
 intro r s σ H x y v u Q I e w h;obtain⟨rfl,q⟩:=h;cases w;refine is_none_gen (K8 I q ?_);cases x <;> first
  | (cases e;rfl)
  | (obtain⟨t,rfl⟩:=e;rfl)
theorem dY7:OpR X (compareOp .IsNot) (λx y H Q=>y=.non/\Q (.bl (!decide (x=.non))) H):=by
 intro r s σ H x y v u Q I e w h;obtain⟨rfl,q⟩:=h;cases w;refine isnot_none_gen (K8 I q ?_);cases x <;> first
  | (cases e;rfl)
  | (obtain⟨t,rfl⟩:=e;rfl)
theorem D8 (b:Expr)(h:op≠.In:=by decide)(r:op≠.NotIn:=by decide):behindInMarks op b=false:=by
 have e:(op==CmpOp.In)=false:=by cases op <;> first | rfl | exact absurd rfl h
 have w:(op==CmpOp.NotIn)=false:=by cases op <;> first | rfl | exact absurd rfl r
 cases b <;> simp[behindInMarks,e,w]
theorem bK4 (ho:OpR X (compareOp op) r)(Y:PE X a ta)(U:PE X b tb)(J:behindInMarks op b=false):PE X (.Compare a [op] [b] pos) (tOp r ta tb):=by
 refine⟨?_⟩;intro j s σ H Q I h;exact wpAny_Compare1 (eG6 Y U I h λv u R x y e w M N q=>ho j R σ e x y v u Q w M N q) J
def p6 (t:TE):TT:=λσ H Q=>t σ H λx H'=>∃k,x=.bl k/\Q k H'
theorem B9 (ho:OpR X (compareOp op) r)(R:PE X a ta)(F:PE X b tb)(B:behindInMarks op b=false):PT X (.Compare a [op] [b] pos) (p6 (tOp r ta tb)):=by
 refine⟨?_⟩;intro w s σ H Q I h;refine wpAny_isTrue_Compare1 (thn (R w s σ H _ I h) λv s1 ⟨x,j,J,r1,P⟩=>thn (F w s1 σ j _ J P) λu s2 ⟨y,Y,M,r2,q2⟩=>
  thn (ho w s2 σ Y x y v u _ M r1 r2 q2) λc s3 ⟨z,U,N,r3,k,e,q3⟩=>?_) B
 subst e;cases r3;exact wpAny_truthy_bool ⟨U,N,q3⟩
def dE3 (r r':R2)(ta tb tc:TE):TE:=λσ H Q=>ta σ H λx H1=>tb σ H1 λy H2=>r x y H2 λz H3=>∃k,z=.bl k /\
 (if k=true then tc σ H3 λw' H4=>r' y w' H4 Q else Q (.bl false) H3)
theorem dH5 (ho:OpR X (compareOp op) r)(j:OpR X (compareOp op') r')(ha:PE X a ta)(hb:PE X b tb)(hc:PE X c tc)
  (hm:lastMarks [op,op'] [b,c]=false:=by with_unfolding_all rfl):PE X (.Compare a [op,op'] [b,c] pos) (dE3 r r' ta tb tc):=by
 refine⟨?_⟩;intro w s σ H Q I h;refine Compare_chain (thn (ha w s σ H _ I h) λv s1 ⟨x,N,B,r1,q1⟩=>chain_link (thn (hb w s1 σ N _ B q1) λu s2 ⟨y,R,P,M,q2⟩=>
  thn (ho w s2 σ R x y v u _ P r1 M q2) λd s3 ⟨z,Y,U,r3,k,e,J⟩=>?_)) hm
 subst e;cases r3;refine wpAny_truthy_bool ?_;cases k with
 | false=>exact ite_ff ⟨.bl false,Y,U,rfl,J⟩
 | true=>exact ite_tt (chain_last (thn (hc w s3 σ Y _ U J) λw' s4 ⟨z',F,I4,r4,q4⟩=>j w s4 σ F y z' u w' Q I4 M r4 q4))
theorem bF5:(sizeLine:Nat)<2^63:=by rw[Dg];decide
theorem aR3 (r:Vals [x] us):∃u,us=[u]/\RelV x u:=by
 cases r with
 | cons e w=>cases w;exact⟨_,rfl,e⟩
theorem eR3 (r:Vals [x,y] us):∃u w',us=[u,w']/\RelV x u/\RelV y w':=by
 cases r with
 | cons e w=>
  cases w with
  | cons j s=>cases s;exact⟨_,_,rfl,e,j⟩
theorem cZ8 (w:X.calm=true):m6 X (.builtin "max") (λxs H Q=>∃i j,xs=[.int i,.int j]/\Q (.int (if j>i then j else i)) H):=by
 intro Y s σ H xs M Q I r h;obtain⟨i,j,rfl,q⟩:=h;obtain⟨u,N,rfl,⟨t,rfl⟩,⟨J,rfl⟩⟩:=eR3 r;refine max_two_ints (I.ok.hd w) λU tk k=>⟨_,H,I.kept k,?_,q⟩
 by_cases e:j>i
 .rw[Ac e,Ac e];exact⟨_,rfl⟩
 .rw[Ab e,Ab e];exact⟨_,rfl⟩
end
structure ObjM (h:Heap)(x dx C:Addr)(mA:Str->Option Value):Prop where
 obj:h.get? x=some (PySem.W.instObj C dx)
 ns:h.Ns1 dx mA
 ne:dx≠x
theorem bD4 {h:Heap}{dx:Addr}{mA:Str->Option Value}(n:h.Ns1 dx mA):∃od,h.get? dx=some od/\∀name,PySem.W.lookIn name od=some (mA name):=by
 obtain⟨o,r,J,ho,s,Y,_,X⟩:=n;refine⟨o,ho,λname=>?_⟩
 have e:=X name
 unfold nsFind findBy at e;rw[<- Array.find?_toList]at e;unfold PySem.W.lookIn;rw[s];dsimp only;split
 .rename_i y q;rw[q]at e;exact congrArg some e
 .rename_i q;rw[q]at e;have a:r.toList.any (·.refKey)=false:=by
   rw[List.any_eq_false];intro y U;obtain⟨z,t,w⟩:=Y y (Array.mem_toList_iff.mp U)
   simp[DictEntry.refKey,w]
  have j:¬r.toList.any (·.refKey)=true:=by rw[a];exact Ah
  rw[Ab j];exact congrArg some e
theorem ObjM.look (I:ObjM h x dx C mA):∃od,PySem.W.InstAt h x (PySem.W.instObj C dx) C (some od)/\∀name,PySem.W.lookIn name od=some (mA name):=
 let ⟨od,ho,e⟩:=bD4 I.ns
 ⟨od,⟨I.obj,rfl,rfl,ho⟩,e⟩
section
variable {prog:Program}{w:World}{A:Around}{E:Dz}{s:Shared}{K:Frag}{x dx C f:Addr}{mA:Str->Option Value}{name:Str}{v:Value}
theorem dZ2 (X:K.In s.heap)(I:ObjM s.heap x dx C mA)(j:PySem.W.plainGet K C name=true)(Y:PySem.W.hasDictIn K C=true)
  (r:PySem.W.findIn K (.ref C) name=some none) (M:mA name=some v) (e:PySem.W.handedIn v=true) (h:Q v {s with toks:=s.toks+1}) :
  wpAny (model prog w) A (getAttr (.ref x) name expr) Q E s:=by
 obtain⟨N,J,U⟩:=I.look;exact PySem.W.get_value X J (PySem.W.plainGet_of j).1 (PySem.W.findObj_own Y r rfl (by rw[U,M])) e h
theorem dM2 (X:K.In s.heap)(I:ObjM s.heap x dx C mA)(e:PySem.W.plainGet K C name=true)
  (r:PySem.W.findIn K (.ref C) name=some (some (.ref f))) (Y:PySem.W.isFn K (.ref f)=true) (U:mA name=none) (h:Q (.ref f,[.ref x]) s) :
  wpAny (model prog w) A (getMethod (.ref x) name pl) Q E s:=by
 obtain⟨M,J,j⟩:=I.look;exact PySem.W.method_fn X J (PySem.W.plainGet_of e).1 (PySem.W.plainGet_of e).2 r (beq_iff_eq.mp Y) (by show(PySem.W.lookIn name M).map (·.isSome)=some false;rw[j,U];rfl) h
theorem dX8 (X:K.In s.heap)(I:ObjM s.heap x dx C mA)
  (hs:PySem.W.findIn K (.ref C) "__setattr__" = some (some (.builtin "object.__setattr__"))) (hp:PySem.W.plainOver K C=true) (ht:PySem.W.takerIn K C name=some none) (P:PySem.W.hasDictIn K C=true)
  (hw:PySem.Within mA ns) (hsz:ns.length<=sizeLine)
  (h:∀h',ObjM h' x dx C (λy=>if y=name then some v else mA y)->Heap.SameBut dx s.heap h'->Q () {s with heap:=h',toks:=s.toks+2}) :
  wpAny (model prog w) A (setAttr (.ref x) name v) Q E s:=by
 obtain⟨od,J,hl⟩:=I.look;refine PySem.W.set_plain X J hs (PySem.W.osa_open (s:={s with toks:=s.toks+1}) (r:=none) X J hp ht λb=>?_)
 obtain⟨cd,B,U⟩:=PySem.W.any_some P;have hx:s.heap.get? x=some ⟨.ref C,some dx,.plain,#[]⟩:=I.obj;refine Aa (Ae (Aa (Aa (wpAny_loadPart hx (Aa (PySem.W.Looks.here (s:={s with toks:=s.toks+1}) (PySem.W.looks_clsIn X B) ?_))))))
 rw[U];refine Ae (a:=some dx) (Aa (Ae (Aa ?_)));refine wpAny_nsSet1 (s:={s with toks:=s.toks+1}) I.ns λh' e j=>?_
 obtain⟨oD,F,R,N,M,Y⟩:=e.count (PySem.Within.cons name v hw);refine Aa (wpAny_lookBehind N (by rw[M];exact pastItsLine_dict (Bd Y (by rw[Av];lia))) ?_)
 exact Ae (h _ ⟨(j.2 _ (Ne.symm I.ne)).trans I.obj,e,I.ne⟩ j)
theorem dN0 (X:K.In s.heap)(j:PySem.W.makesIn K C=true)
  (hi:PySem.W.findIn K (.ref C) "__init__" = some (some (.ref f))) (r:PySem.W.typeIn K (.ref f)=some (.type "function"))
  (h:codeAny (model prog w) (A.under (.builtin "type.__call__" ⟨.ref C::vs,kw⟩)) (.call (.ref f) ⟨.ref (s.heap.objs.size+1)::vs,kw⟩) (PySem.W.InitBack (s.heap.objs.size+1) R)
   {s with heap:=(s.heap.push PySem.W.emptyDict).push (PySem.W.instObj C s.heap.objs.size)}) :
  codeAny (model prog w) A (.call (.ref C) ⟨vs,kw⟩) R s:=by
 obtain⟨Y,g,d,t,os⟩:=s;exact PySem.W.make_core (PySem.W.makes_of X j) (PySem.W.looks_findIn X hi) (λe=>PySem.W.bind_fn X e r) (.inl rfl) h
end
def aP9 (f:Str)(v:V):List (Str×V)->List (Str×V)
 | []=>[(f,v)]
 | (g,x)::r=>if g=f then(g,v)::r else(g,x)::aP9 f v r
theorem bH9 (f g:Str)(v:V):∀fs:List (Str×V),(aP9 f v fs).lookup g=if g=f then some v else fs.lookup g
 | []=>by
  show List.lookup g [(f,v)]=_
  by_cases h:g=f
  .have w:(g==f)=true:=beq_iff_eq.mpr h
   simp only[List.lookup,w,Ac h]
  .have w:(g==f)=false:=beq_eq_false_iff_ne.mpr h
   simp only[List.lookup,w,Ab h]
 | (k,x)::r=>by
  have s:=bH9 f g v r
  rw[show aP9 f v ((k,x)::r)=(if k=f then(k,v)::r else(k,x)::aP9 f v r) from rfl]
  by_cases j:k=f
  .rw[Ac j];by_cases h:g=k
   .have w:(g==k)=true:=beq_iff_eq.mpr h
    simp only[List.lookup,w,Ac (h.trans j)]
   .have w:(g==k)=false:=beq_eq_false_iff_ne.mpr h
    simp only[List.lookup,w,Ab (λe:g=f=>h (e.trans j.symm))]
  .rw[Ab j];by_cases h:g=k
   .have w:(g==k)=true:=beq_iff_eq.mpr h
    simp only[List.lookup,w,Ab (λe:g=f=>j (h.symm.trans e))]
   .have w:(g==k)=false:=beq_eq_false_iff_ne.mpr h
    simp only[List.lookup,w];exact s
theorem bD6 (f:Str)(v:V):∀fs:List (Str×V),f∈(aP9 f v fs).map (·.1)/\∀g,g∈fs.map (·.1)->g∈(aP9 f v fs).map (·.1)
 | []=>⟨by simp[aP9],λg h=>by simp at h⟩
 | (k,x)::r=>by
  obtain⟨j,s⟩:=bD6 f v r;rw[show aP9 f v ((k,x)::r)=(if k=f then(k,v)::r else(k,x)::aP9 f v r) from rfl]
  by_cases w:k=f
  .rw[Ac w];subst w;exact⟨by simp,λg h=>by simpa using h⟩
  .rw[Ab w];refine⟨?_,λg h=>?_⟩
   .rw[Ac7];exact Ad4 _ j
   .rw[Ac7]at h ⊢;rcases Aa1.mp h with e | e
    .exact Aa1.mpr (.inl e)
    .exact Ad4 _ (s g e)
theorem bI1 (f:Str)(v:V):∀fs:List (Str×V),(aP9 f v fs).length<=fs.length+1
 | []=>by simp[aP9]
 | (k,x)::r=>by
  have w:=bI1 f v r
  rw[show aP9 f v ((k,x)::r)=(if k=f then(k,v)::r else(k,x)::aP9 f v r) from rfl]
  by_cases e:k=f
  .rw[Ac e,Av,Av];lia
  .rw[Ab e,Av,Av];lia
theorem RelO.some_of (r:RelO (some v) o):∃u,o=some u/\RelV v u:=by
 cases o with
 | none=>exact(show False from r).elim
 | some u=>exact⟨u,rfl,r⟩
theorem RelO.none_of (r:RelO none o):o=none:=by
 cases o with
 | none=>rfl
 | some u=>exact(show False from r).elim
theorem bG0 (r:RelV v u):PySem.W.handedIn u=true:=by
 cases v with
 | non=>cases (show u=Value.none from r);rfl
 | bl b=>cases (show u=Value.bool b from r);rfl
 | int i=>obtain⟨t,e⟩:=(show ∃t,u=Value.int i t from r);cases e;rfl
 | str x=>obtain⟨t,e⟩:=(show ∃t,u=Value.str x t from r);cases e;rfl
 | byt b=>obtain⟨t,e⟩:=(show ∃t,u=Value.bytes b t from r);cases e;rfl
 | flt b=>obtain⟨t,e⟩:=(show ∃t,u=Value.float b t from r);cases e;rfl
 | ref a=>cases (show u=Value.ref a from r);rfl
 | ty n=>cases (show u=Value.type n from r);rfl
section
variable {P:Program}{w:World}{H H':Hp}{h h':Heap}{a C dx:Addr}{fs fs':List (Str×V)}
theorem cB1 (j:HOk P w H h)(e:H a=some (.ins C dx fs)):∃mA,ObjM h a dx C mA/\(∀f,RelO (fs.lookup f) (mA f))/\PySem.Within mA (fs.map (·.1))/\fs.length<=1000/\H dx=some (.own a):=by
 obtain⟨d,z,ne,s,mA,n,r,q⟩:=(show ObjOk P w H h a (.ins C dx fs) from j a _ e)
 exact⟨mA,⟨s,n,ne⟩,r,q,z,d⟩
end
structure Cls (K:Frag)(C:Addr):Prop where
 pg:PySem.W.plainGet K C Str.empty=true
 hd:PySem.W.hasDictIn K C=true
 po:PySem.W.plainOver K C=true
 sa:PySem.W.findIn K (.ref C) "__setattr__" = some (some (.builtin "object.__setattr__"))
theorem Cls.get {K:Frag}{C:Addr}(c:Cls K C)(f:Str):PySem.W.plainGet K C f=true:=c.pg
def NoAttr (K:Frag)(C:Addr)(f:Str):Prop:=PySem.W.findIn K (.ref C) f=some none
theorem NoAttr.taker {K:Frag}{C:Addr}{f:Str}(n:NoAttr K C f):PySem.W.takerIn K C f=some none:=by
 unfold PySem.W.takerIn;rw[show PySem.W.findIn K (.ref C) f=some none from n]
 rfl
structure bC0 (K:Frag)(C:Addr)(m:Str)(f:Addr):Prop where
 at_:PySem.W.findIn K (.ref C) m=some (some (.ref f))
 fn:PySem.W.isFn K (.ref f)=true
 kp:PySem.W.keepIn K (.ref f)=true
section
variable {X:Cx}{bA:Eb}{σ:St}{H:Hp}{s:Shared}{a C dx:Addr}{fs:List (Str×V)}{f:Str}{v:V}{A:Around}{E:Dz}
theorem cS1 (I:Inv X bA σ H s)(e:H a=some (.ins C dx fs))(c:Cls X.K C)(n:NoAttr X.K C f)(l:fs.lookup f=some v)
  (h:∀u s',Inv X bA σ H s'->RelV v u->Q u s'):wpAny (model X.prog X.w) A (getAttr (.ref a) f b) Q E s:=by
 obtain⟨U,O,r,_,_,_⟩:=cB1 I.hok e;obtain⟨u,Y,j⟩:=RelO.some_of (v:=v) (o:=U f) (by rw[<- l];exact r f)
 exact dZ2 I.kIn O (c.get f) c.hd n Y (bG0 j) (h u _ (I.tok _) j)
theorem bN2 (I:Inv X bA σ H s)(e:H a=some (.ins C dx fs))(c:Cls X.K C)(k:bC0 X.K C m g)(l:fs.lookup m=none)
  (h:Q (.ref g,[.ref a]) s):wpAny (model X.prog X.w) A (getMethod (.ref a) m pl) Q E s:=by
 obtain⟨Y,O,r,_,_,_⟩:=cB1 I.hok e;have j:Y m=none:=RelO.none_of (by rw[<- l];exact r m)
 exact dM2 I.kIn O (c.get m) k.at_ k.fn j h
theorem cQ5 (I:Inv X bA σ H s)(e:H a=some (.ins C dx fs))(c:Cls X.K C)(n:NoAttr X.K C f)(hl:fs.length<1000)(B:RelV y u)
  (h:∀s',Inv X bA σ (upd H a (.ins C dx (aP9 f y fs))) s'->Q () s'):wpAny (model X.prog X.w) A (setAttr (.ref a) f u) Q E s:=by
 obtain⟨Y,O,r,U,_,ho⟩:=cB1 I.hok e;have F:(fs.map (·.1)).length<=sizeLine:=by rw[Aa3,Dg];lia
 refine dX8 I.kIn O c.sa c.po n.taker c.hd U F λJ j P=>h _ ?_
 have N:∃o,J.get? dx=some o:=let ⟨o,_,_,e',_⟩:=j.ns;⟨o,e'⟩
 refine I.write (x:=a) (e:=dx) (by rw[e];exact True.intro) (.inr ho) (λb q M z=>(P.2 b M).trans z) N ?_
 refine⟨by rw[B6 O.ne];exact ho,?_,O.ne,j.obj,_,j.ns,λg=>?_,λg R=>?_⟩
 .have:=bI1 f y fs;lia
 .show RelO ((aP9 f y fs).lookup g) (if g=f then some u else Y g)
  rw[bH9];by_cases q:g=f
  .rw[Ac q,Ac q];exact B
  .rw[Ab q,Ab q];exact r g
 .by_cases q:g=f
  .rw[q];exact(bD6 f y fs).1
  .refine(bD6 f y fs).2 g (U g λz=>R ?_)
   show(if g=f then some u else Y g)=none
   rw[Ab q];exact z
theorem Inv.made (I:Inv X bA σ H s):Inv X bA σ (upd (upd H s.heap.objs.size (.own (s.heap.objs.size+1))) (s.heap.objs.size+1) (.ins C s.heap.objs.size []))
  {s with heap:=(s.heap.push PySem.W.emptyDict).push (PySem.W.instObj C s.heap.objs.size)}:=by
 have w:(s.heap.push PySem.W.emptyDict).get? s.heap.objs.size=some PySem.W.emptyDict:=Ac3 s.heap rfl
 have j:((s.heap.push PySem.W.emptyDict).push (PySem.W.instObj C s.heap.objs.size)).get? (s.heap.objs.size+1)=some (PySem.W.instObj C s.heap.objs.size):=by
  have:=Ac3 (s.heap.push PySem.W.emptyDict) (o:=PySem.W.instObj C s.heap.objs.size) rfl
  rwa [Cf]at this
 have Y:(s.heap.push PySem.W.emptyDict).Ns s.heap.objs.size (λ_=>none):=⟨PySem.W.emptyDict,#[],_,w,rfl,(λe U=>absurd U (by simp)),λ_=>rfl⟩
 have r:=I.laid (a:=s.heap.objs.size) (o:=.own (s.heap.objs.size+1)) (h':=s.heap.push PySem.W.emptyDict) (t':=s.toks) (λb u q=>Aa6 _ q) (Aa7 _) ⟨_,w⟩
 refine r.laid (a:=s.heap.objs.size+1) (o:=.ins C s.heap.objs.size []) (t':=s.toks) (λb u q=>Aa6 _ q) (Nat.le_of_eq (Cf _ _)) ?_
 have ne:s.heap.objs.size≠s.heap.objs.size+1:=Ab9 (Nat.lt_succ_self _)
 refine⟨by rw[B6 ne,C4],Co _,ne,j,λ_=>none,(Heap.Ns1.of_empty Y).at λo q=>Aa6 _ q,λ_=>True.intro,λy J=>absurd rfl J⟩
theorem bZ5 (r:attributeBase e f env (eval e env)=eval e env)
  (h:wpAny (model prog w) A (eval e env) (λo s₁=>wpAny (model prog w) A (getAttr o f true) Q E s₁) E s):wpAny (model prog w) A (eval (.Attribute e f pos) env) Q E s:=
 Attribute_any_ h (by rw[arm_eval_Attribute,r])
end
def aI6 (K:Frag)(ta:TE)(f:Str):TE:=λσ H Q=>ta σ H λx H1=>∃a C dx fs v,x=.ref a/\H1 a=some (.ins C dx fs)/\Cls K C/\NoAttr K C f/\fs.lookup f=some v/\Q v H1
def eY4 (K:Frag)(ta tv:TE)(f:Str):TS:=λD σ H=>tv σ H λy H1=>ta σ H1 λx H2=>∃a C dx fs,x=.ref a/\H2 a=some (.ins C dx fs)/\Cls K C/\NoAttr K C f/\fs.length<1000 /\
 D.nx σ (upd H2 a (.ins C dx (aP9 f y fs)))
section
variable {X:Cx}{o e value:Expr}{f:Str}{pos pos' tpos:Pos}{ta tv:TE}
theorem J8 (N:PE X e ta)(M:attributeBase e f X.env (eval e X.env)=eval e X.env):PE X (.Attribute e f pos) (aI6 X.K ta f):=by
 refine⟨?_⟩;intro Y s σ H Q I h;refine bZ5 M (thn (N Y s σ H _ I h) λu B ⟨x,w,r,F,a,C,dx,fs,v,J,U,c,n,l,q⟩=>?_)
 subst J;obtain rfl:u=Value.ref a:=F;exact cS1 r U c n l λu' P j R=>⟨v,w,j,R,q⟩
theorem bF9 (N:PE X o ta)(Q:PE X value tv)(R:swapsWith value (some (.Attribute o f pos')) pos.line X.env=pure false):PS X (.Assign [.Attribute o f pos'] value pos) (eY4 X.K ta tv f):=by
 refine⟨?_⟩;intro w s σ H D I h;refine plainObj_wpAny_Assign_Attribute (thn (Q w s σ H _ I h) λu s1 ⟨y,r,j,ry,q⟩=>thn (N w s1 σ r _ j q) λF s2 ⟨x,H2,Y,P,a,C,dx,fs,M,J,c,n,l,B⟩=>?_) R
 subst M;obtain rfl:F=Value.ref a:=P;exact cQ5 Y J c n l ry λs3 U=>⟨σ,_,U,B⟩
end
structure Room (k:Nat)(A:Around):Prop where
 hd:A.handled=none
 dp:A.depth+3*k+5<recursionLimit
 un:A.units+16*k+200<cLine
theorem Room.mono (r:Room k A)(h:j<=k):Room j A:=⟨r.hd,by have:=r.dp;lia,by have:=r.un;lia⟩
theorem Room.deeper (r:Room (k+1) A)(env:Env):Room k (A.deeper env):=
 ⟨r.hd,by have:=r.dp;show A.depth+1+3*k+5<_;lia,by have:=r.un;show A.units+3+16*k+200<_;lia⟩
theorem cN5 {A:Around}{C:Addr}{us:AG}{kw:List (Str×Value)}:(A.under (.builtin "type.__call__" ⟨.ref C::us,kw⟩)).depth=A.depth+1:=by
 first | rfl | simp[Around.under,Code.weight,Code.isCreation,Code.isGuard,Code.isCaller,Code.frames,Code.isFrame,guardIds]
theorem cO8 {A:Around}{C:Addr}{us:AG}{kw:List (Str×Value)}:(A.under (.builtin "type.__call__" ⟨.ref C::us,kw⟩)).units=A.units+1:=by
 first | rfl | simp[Around.under,Code.cUnits,Code.frames,Code.isFrame]
theorem Room.make (r:Room (k+1) A)(C:Addr)(us:AG)(e:List (Str×Value)):Room k (A.under (.builtin "type.__call__" ⟨.ref C::us,e⟩)):=
 ⟨r.hd,by have:=r.dp;rw[cN5];lia,by have:=r.un;rw[cO8];lia⟩
theorem Room.depth (r:Room k A):A.depth<recursionLimit:=by have:=r.dp;lia
theorem Room.units (r:Room k A):A.units+64<cLine:=by have:=r.un;lia
def R6:TA:=λ_ H Q=>Q [] H
def E7 (ta:TE)(tr:TA):TA:=λσ H Q=>ta σ H λx H1=>tr σ H1 λxs H2=>Q (x::xs) H2
section
theorem A2:PA X [] R6:=⟨λ_ _ _ _ H Q I h=>Calls.spliced_nil ⟨[],H,I,.nil,h⟩⟩
theorem dU6 (M:PE X e te)(N:PA X es t)(R:starEach (e::es) X.env=(false,eval e X.env)::starEach es X.env:=by rfl):PA X (e::es) (E7 te t):=by
 refine⟨?_⟩;intro w r s σ H Q I h;rw[R];show wpAny _ _ (spliced ((false,eval e X.env)::backTo w (starEach es X.env))) _ _ s;refine Calls.spliced_cons (thn (M r s σ H _ I h) λu s1 ⟨x,j,U,P,F⟩=>?_)
 exact thn (N w r s1 σ j _ U F) λus s2 ⟨xs,Y,J,r2,B⟩=>⟨x::xs,Y,J,.cons P r2,B⟩
def cS5 (t:TA):TE:=λσ H Q=>t σ H λxs H1=>xs.length<=sizeLine/\∀p,H1 p=none->Q (.ref p) (upd H1 p (.tup xs))
def dK1 (t:TA):TE:=λσ H Q=>t σ H λxs H1=>xs.length<=sizeLine/\∀p,H1 p=none->Q (.ref p) (upd H1 p (.lst xs))
theorem H9 (h:PA X es t):PE X (.Tuple es x1 pos) (cS5 t):=by
 refine⟨?_⟩;intro U s σ H Q I M;refine wpAny_Tuple_spliced (thn (h pos U s σ H _ I M) λN w ⟨xs,j,Y,r,z,q⟩=>⟨by rw[<- r.length];exact z,?_⟩)
 have J:j w.heap.objs.size=none:=Y.hok.fresh (Aa7 _)
 refine⟨.ref w.heap.objs.size,upd j w.heap.objs.size (.tup xs),Y.laid (t':=w.toks) (λb u e=>Aa6 _ e) (Aa7 _) ?_,rfl,q _ J⟩
 exact⟨z,N,r,⟨_,Ac3 _ rfl,rfl,⟨_,rfl⟩,rfl⟩⟩
theorem D6 (h:PA X es t):PE X (.List es pos) (dK1 t):=by
 refine⟨?_⟩;intro U s σ H Q I M;refine wpAny_List_spliced (thn (h pos U s σ H _ I M) λN w ⟨xs,j,Y,r,z,q⟩=>⟨by rw[<- r.length];exact z,?_⟩)
 have J:j w.heap.objs.size=none:=Y.hok.fresh (Aa7 _)
 refine⟨.ref w.heap.objs.size,upd j w.heap.objs.size (.lst xs),Y.laid (t':=w.toks) (λb u e=>Aa6 _ e) (Aa7 _) ?_,rfl,q _ J⟩
 exact⟨z,N,0,r,Ac3 _ rfl⟩
end
abbrev Sp:=List V->Hp->VK->XK->Prop
abbrev CXT:=List Env->Hp->Shared->XK->Value->Shared->Prop
structure Env0 (P:Program)(w:World)(K:Frag)(mg:Str->Option Value)(base:Heap)(A:Around)(outer:List Env)(s:Shared)(H:Hp):Prop where
 frames:A.frames=some outer
 mod:Mod K mg base
 bs:∀b o,base.get? b=some o->s.heap.get? b=some o/\H b=none
 bsz:base.objs.size<=s.heap.objs.size
 funs:s.heap.FunFrames base outer
 frf:∀b∈frs outer,H b=none
 hok:HOk P w H s.heap
 bare:AllBare s.gens
def CE (outer:List Env)(P:Program)(w:World)(H:Hp)(s:Shared)(Q:VK)(u:Value)(s':Shared):Prop:=
 ∃v H',s'.os=s.os/\AllBare s'.gens/\Un (frs outer) [] H H' s.heap s'.heap/\HOk P w H' s'.heap/\RelV v u/\Q v H'
def CR (CX:CXT)(outer:List Env)(P:Program)(w:World)(H:Hp)(s:Shared)(Q:VK)(E:XK)(r:Result)(s':Shared):Prop:=
 match r with
 | .ok (.ret u)=>CE outer P w H s Q u s'
 | .ok _=>False
 | .error e=>CX outer H s E e s'
structure FnOk (P:Program)(w:World)(K:Frag)(mg:Str->Option Value)(base:Heap)(CX:CXT)(k:Nat)(f:Addr)(fd:FuncData)(ps:AH)(sp:Sp):Prop where
 len:∀vs H Q E,sp vs H Q E->vs.length=ps.length
 run:∀(A:Around) (outer:List Env) (s:Shared) (H:Hp) (args:Args) (us:AG) (vs:List V) (Q:VK) (E:XK),Room k A->Env0 P w K mg base A outer s H->BindsTo s fd args (ps.zip us)->Vals vs us->sp vs H Q E ->
  codeAny (model P w) A (.call (.ref f) args) (CR CX outer P w H s Q E) s
theorem FnOk.imp {P:Program}{w:World}{K:Frag}{mg:Str->Option Value}{base:Heap}{CX:CXT}{k:Nat}{f:Addr}{fd:FuncData}{ps:AH}{sp sp':Sp}(F:FnOk P w K mg base CX k f fd ps sp)
  (h:∀vs H Q E,sp' vs H Q E->sp vs H Q E):FnOk P w K mg base CX k f fd ps sp':=
 ⟨λvs H Q E q=>F.len vs H Q E (h _ _ _ _ q),λA e s H r M vs Q E X Y j J U=>F.run A e s H r M vs Q E X Y j J (h _ _ _ _ U)⟩
theorem Env0.make {P:Program}{w:World}{K:Frag}{mg:Str->Option Value}{base:Heap}{A:Around}{outer:List Env}{s:Shared}{H:Hp}(e:Env0 P w K mg base A outer s H)(C:Addr)(us:AG)(r:List (Str×Value)) :
  Env0 P w K mg base (A.under (.builtin "type.__call__" ⟨.ref C::us,r⟩)) outer s H:=⟨by first | exact e.frames | (simpa[Around.under,Code.envs,Code.isFrame,pushEnvs]using e.frames),e.mod,e.bs,e.bsz,e.funs,e.frf,e.hok,e.bare⟩
section
theorem Inv.env0 (I:Inv X bA σ H s):Env0 X.prog X.w X.K X.mg X.base X.A X.stack s H:=
 ⟨I.ok.frames,I.ok.mod,I.bs,Bd I.ok.bsz I.sz,I.stack,I.stkFree,I.hok,I.bare⟩
theorem Inv.after (I:Inv X bA σ H s)(h:CE X.stack X.prog X.w H s Q u s'):EP X bA σ Q u s':=by
 obtain⟨v,U,os,e,un,j,r,q⟩:=h;obtain⟨J,g,d,t,Y⟩:=s';obtain rfl:Y=s.os:=os;exact⟨v,U,I.call (h':=J) (g':=g) (d':=d) (t':=t) (ch:=[]) un j e (λb z=>absurd z (by simp)),r,q⟩
end
def V3 (sp:Sp)(dvs:List V)(E:XK)(t:TA):TE:=λσ H Q=>t σ H λvs H1=>sp (vs++dvs) H1 Q E
def i6 (C:Addr)(m:Str)(sp:Sp)(dvs:List V)(E:XK)(ta:TE)(t:TA):TE:=λσ H Q=>ta σ H λx H1=>∃a dx fs,x=.ref a/\H1 a=some (.ins C dx fs)/\fs.lookup m=none /\
 t σ H1 λvs H2=>sp (x::(vs++dvs)) H2 Q E
def eB3 (C:Addr)(sp:Sp)(dvs:List V)(E:XK)(t:TA):TE:=λσ H Q=>t σ H λvs H1=>∀x dx,H1 x=none->H1 dx=none->dx≠x ->
 sp (.ref x::(vs++dvs)) (upd (upd H1 dx (.own x)) x (.ins C dx [])) (λv H2=>v=.non/\Q (.ref x) H2) E
def Binds (K:Frag)(fd:FuncData)(ps:AH)(ds:AG):Prop:=
 ∀(s:Shared) (us:AG),K.In s.heap->(us++ds).length=ps.length->BindsTo s fd ⟨us,[]⟩ (ps.zip (us++ds))
theorem Binds.all {K:Frag}{fd:FuncData}{ps:AH}(h:∀us:AG,us.length=ps.length->bindArgs fd ⟨us,[]⟩=pure (ps.zip us)):Binds K fd ps []:=λs us _ e=>by
 rw[Ba]at e ⊢;exact .of_eq (h us e)
def w6 (CX:CXT)(X:Cx)(E:XK):Prop:=∀(bA:Eb) (σ:St) (H:Hp) (s:Shared) (e:Value) (s':Shared),Inv X bA σ H s->CX X.stack H s E e s'->X.xe e s'
section
theorem dR3 (F:FnOk X.prog X.w X.K X.mg X.base CX k f fd ps sp)(N:Room k X.A)(U:Binds X.K fd ps ds)(J:Vals dvs ds)(R:w6 CX X E)
  (I:Inv X bA σ H s) (r:Vals vs us) (h:sp (vs++dvs) H Q E):wpAny (model X.prog X.w) X.A (call (.ref f) us) (EP X bA σ Q) X.xe s:=by
 have Y:Vals (vs++dvs) (us++ds):=r.append J
 have M:(us++ds).length=ps.length:=by rw[<- Y.length];exact F.len _ _ _ _ h
 refine wpAny_call (codeAny_mono (F.run X.A X.stack s H ⟨us,[]⟩ (us++ds) (vs++dvs) Q E N I.env0 (U s us I.kIn M) Y h) λr B j=>?_)
 cases r with
 | error e=>exact R bA σ H s e B I j
 | ok fl=>
  cases fl with
  | ret u=>exact I.after j
  | next=>exact False.elim j
  | brk=>exact False.elim j
  | cont=>exact False.elim j
theorem dZ8 (F:FnOk X.prog X.w X.K X.mg X.base CX k f fd ps sp)(hr:Room k X.A)(P:Gl X x)(hm:X.mg x=some (.ref f))(hk:PySem.W.keepIn X.K (.ref f)=true)(N:Binds X.K fd ps ds)(R:Vals dvs ds)(hx:w6 CX X E)
  (M:PA X (e::es) t) (j:(x==("__debug__" : Str))=false:=by decide) (B:starEach (e::es) X.env=(false,eval e X.env)::starEach es X.env:=by rfl) (Y:(backTo pos (starEach es X.env)).any (·.1)=false:=by rfl) :
  PE X (.Call (.Name x p) (e::es) [] pos) (V3 sp dvs E t):=by
 refine⟨?_⟩;intro J s σ H Q I h;refine wpAny_Call_Name_kw (Z5 I P hm ?_ j);refine PySem.W.callWith_K (h₀:=X.base) I.ok.mod.kin hk (thn (M pos J s σ H _ I h) λus s1 ⟨vs,H1,U,r,q⟩=>⟨U.kIn,?_⟩) B Y
 exact dR3 F hr N R hx U r q
theorem aO8 (he:PE X o ta)(c:Cls X.K C)(N:bC0 X.K C m f)(F:FnOk X.prog X.w X.K X.mg X.base CX k f fd ps sp)(hr:Room k X.A)(hb:Binds X.K fd ps ds)(hd:Vals dvs ds)(hx:w6 CX X E)(ha:PA X (e::es) t)
  (Y:starEach (e::es) X.env=(false,eval e X.env)::starEach es X.env:=by rfl) (j:(backTo pos (starEach es X.env)).any (·.1)=false:=by rfl)
  (ht:eval (.Call (.Attribute o m apos) (e::es) [] pos) X.env=(do
   let ov <- eval o X.env
   standAt apos.atName
   let (f,first) <- holding [ov] (getMethod ov m pl)
   callWith pos f first (backTo pos (starEach (e::es) X.env)) (backToKw pos (keywordEach [] X.env))):=by rfl) :
  PE X (.Call (.Attribute o m apos) (e::es) [] pos) (i6 C m sp dvs E ta t):=by
 refine⟨?_⟩;intro M s σ H Q I h;refine PySem.W.methodCall_KW (pl:=pl) (thn (he M s σ H _ I h) λu s1 ⟨x,R,U,rx,a,dx,fs,P,B,l,q⟩=>?_) ht
 subst P;obtain rfl:u=Value.ref a:=rx;refine bN2 U B c N l ?_;refine PySem.W.callWith_K (first:=[.ref a]) (h₀:=X.base) I.ok.mod.kin N.kp (thn (ha pos M s1 σ R _ U q) λus s2 ⟨vs,H2,J,r,q2⟩=>⟨J.kIn,?_⟩) Y j
 exact dR3 (us:=.ref a::us) (vs:=.ref a::vs) F hr hb hd hx J (.cons rfl r) q2
structure Mk (K:Frag)(C f:Addr):Prop where
 makes:PySem.W.makesIn K C=true
 init:PySem.W.findIn K (.ref C) "__init__" = some (some (.ref f))
 fn:PySem.W.isFn K (.ref f)=true
 kp:PySem.W.keepIn K (.ref C)=true
theorem dL4 (M:Mk X.K C f)(F:FnOk X.prog X.w X.K X.mg X.base CX k f fd ps sp)(hr:Room (k+1) X.A)(B:Binds X.K fd ps ds)(P:Vals dvs ds)
  (hx:w6 CX X E) (I:Inv X bA σ H s) (r:Vals vs us)
  (h:∀x dx,H x=none->H dx=none->dx≠x->sp (.ref x::(vs++dvs)) (upd (upd H dx (.own x)) x (.ins C dx [])) (λv H2=>v=.non/\Q (.ref x) H2) E) :
  wpAny (model X.prog X.w) X.A (call (.ref C) us) (EP X bA σ Q) X.xe s:=by
 have U:=h (s.heap.objs.size+1) s.heap.objs.size (I.hok.fresh (Nat.le_succ _)) (I.hok.fresh (Aa7 _)) (Ab9 (Nat.lt_succ_self _))
 have Y:=Inv.made (C:=C) I
 have J:Vals (V.ref (s.heap.objs.size+1)::(vs++dvs)) (Value.ref (s.heap.objs.size+1)::(us++ds)):=.cons rfl (r.append P)
 have hl:(Value.ref (s.heap.objs.size+1)::us++ds).length=ps.length:=by
  have e:=J.length
  rw[F.len _ _ _ _ U]at e;exact e.symm
 refine wpAny_call (dN0 (f:=f) I.kIn M.makes M.init (beq_iff_eq.mp M.fn) (codeAny_mono (F.run _ X.stack _ _ ⟨Value.ref (s.heap.objs.size+1)::us,[]⟩ (Value.ref (s.heap.objs.size+1)::(us++ds)) _ _ E (hr.make C us [])
  (Y.env0.make C us []) (B _ (Value.ref (s.heap.objs.size+1)::us) Y.kIn hl) J U) λr s' j=>?_))
 cases r with
 | error e=>exact hx bA σ _ _ e s' Y j
 | ok fl=>
  cases fl with
  | ret u=>
   obtain⟨v,N,R,rv,ev,q3⟩:=Y.after j;subst ev;exact⟨rv,⟨V.ref (s.heap.objs.size+1),N,R,rfl,q3⟩⟩
  | next=>exact False.elim j
  | brk=>exact False.elim j
  | cont=>exact False.elim j
theorem t5 (M:Mk X.K C f)(F:FnOk X.prog X.w X.K X.mg X.base CX k f fd ps sp)(hr:Room (k+1) X.A)(hg:Gl X x)(hm:X.mg x=some (.ref C))(R:Binds X.K fd ps ds)(B:Vals dvs ds)(hx:w6 CX X E)
  (N:PA X (e::es) t) (j:(x==("__debug__" : Str))=false:=by decide) (P:starEach (e::es) X.env=(false,eval e X.env)::starEach es X.env:=by rfl) (Y:(backTo pos (starEach es X.env)).any (·.1)=false:=by rfl) :
  PE X (.Call (.Name x p) (e::es) [] pos) (eB3 C sp dvs E t):=by
 refine⟨?_⟩;intro J s σ H Q I h;refine wpAny_Call_Name_kw (Z5 I hg hm ?_ j);refine PySem.W.callWith_K (h₀:=X.base) I.ok.mod.kin M.kp (thn (N pos J s σ H _ I h) λus s1 ⟨vs,H1,U,r,q⟩=>⟨U.kIn,?_⟩) P Y
 exact dL4 M F hr R B hx U r q
end
structure B8 (N P:AH)(sc:Scope):Prop where
 kind:sc.kind=.function:=by rfl
 co:sc.isCoroutine=false:=by rfl
 gen:sc.isGenerator=false:=by rfl
 nd:N.Nodup:=by decide +kernel
 pre:N.take P.length=P:=by rfl
 par:∀x∈P,sc.names.lookup x=some .local\/sc.names.lookup x=some .cell:=by decide +kernel
 nofree:∀y∈sc.names,y.2≠.free:=by decide +kernel
theorem bX6 {kindOf:Str->Option NameKind}{x:Str}:∀{binds:List (Str×Value)} {m:Str->Option Value},(∀v,(x,v)∉binds)->bindL kindOf binds m x=m x
 | [],_,_=>rfl
 | (n,v)::r,m,h=>by
  unfold bindL;rw[bX6 λw e=>h w (Ad4 _ e)]
  split
  .have:x≠n:=by rintro rfl;exact h v Al
   simp[this]
  .rfl
theorem bX4 {kindOf:Str->Option NameKind}{x:Str}:∀{binds:List (Str×Value)} {m:Str->Option Value},(∀v,(x,v)∉binds)->bindC kindOf binds m x=m x
 | [],_,_=>rfl
 | (n,v)::r,m,h=>by
  unfold bindC;rw[bX4 λw e=>h w (Ad4 _ e)]
  split
  .rfl
  .have:x≠n:=by rintro rfl;exact h v Al
   simp[this]
theorem bS8 {kindOf:Str->Option NameKind}{x:Str}{v:Value}:∀{P:AH} {vs:AG} {i:Nat} {m:Str->Option Value},P.Nodup->P[i]? = some x->vs[i]? = some v->kindOf x=some .local ->
  bindL kindOf (P.zip vs) m x=some v
 | [],_,_,_,_,h,_,_=>by simp at h
 | _::_,[],_,_,_,_,h,_=>by simp at h
 | p::P,w::vs,0,m,nd,h1,h2,hk=>by
  simp at h1 h2;subst h1;subst h2
  show bindL kindOf ((p,w)::P.zip vs) m p=_
  unfold bindL;rw[bX6 λv e=>(Aa5.mp nd).1 (List.of_mem_zip e).1,Ac hk]
  simp
 | p::P,w::vs,i+1,m,nd,h1,h2,hk=>by
  show bindL kindOf ((p,w)::P.zip vs) m x=_
  unfold bindL;exact bS8 (i:=i) (Aa5.mp nd).2 (by simpa using h1) (by simpa using h2) hk
theorem bT3 {kindOf:Str->Option NameKind}{x:Str}{v:Value}:∀{P:AH} {vs:AG} {i:Nat} {m:Str->Option Value},P.Nodup->P[i]? = some x->vs[i]? = some v->kindOf x≠some .local ->
  bindC kindOf (P.zip vs) m x=some v
 | [],_,_,_,_,h,_,_=>by simp at h
 | _::_,[],_,_,_,_,h,_=>by simp at h
 | p::P,w::vs,0,m,nd,h1,h2,hk=>by
  simp at h1 h2;subst h1;subst h2
  show bindC kindOf ((p,w)::P.zip vs) m p=_
  unfold bindC;rw[bX4 λv e=>(Aa5.mp nd).1 (List.of_mem_zip e).1,Ab hk]
  simp
 | p::P,w::vs,i+1,m,nd,h1,h2,hk=>by
  show bindC kindOf ((p,w)::P.zip vs) m x=_
  unfold bindC;exact bT3 (i:=i) (Aa5.mp nd).2 (by simpa using h1) (by simpa using h2) hk
def Y6 (N:AH)(vs:List V):St:=vs.map some++List.replicate (N.length-vs.length) none
def bA5 (CX:CXT)(P:Program)(w:World)(K:Frag)(mg:Str->Option Value)(base:Heap)(N:AH)(qual:Str)(scope:Scope)(f:Addr)(cd:Value)(A:Around)(outer:List Env)(s:Shared)(H:Hp)(E:XK):Cx where
 prog:=P
 w:=w
 K:=K
 mg:=mg
 base:=base
 A:=A.deeper (envOfC qual scope s.heap.objs.size f cd)
 N:=N
 s₀:=s
 H₀:=H
 env:=envOfC qual scope s.heap.objs.size f cd
 outer:=outer
 stack:=envOfC qual scope s.heap.objs.size f cd::outer
 ex:=[]
 calm:=true
 fn:=λ_=>true
 pn:=[]
 xe:=λe s'=>wpAny (model P w) (A.deeper (envOfC qual scope s.heap.objs.size f cd)) (leaving (envOfC qual scope s.heap.objs.size f cd) e) (λ_ s''=>CX outer H s E e s'') (λe' s''=>CX outer H s E e' s'') s'
theorem cL8 {sc:Scope}{n:Nat}{x:Str}(h:sc.names.lookup x=some .cell):∃c,(cellsFrom n sc.names []).lookup x=some c:=by
 have q:=PySem.W.cellsFrom_some sc.names n [] (.inl h)
 exact Option.isSome_iff_exists.mp q
theorem bT9 {CX:CXT}{P:Program}{w:World}{K:Frag}{mg:Str->Option Value}{base:Heap}{N ps:AH}{qual:Str}{scope:Scope}{f:Addr}{cd:Value}{A:Around}{outer:List Env}{s s1:Shared}{H:Hp}{E:XK}{us:AG}{vs:List V}
  (S:B8 N ps scope) (Q:A.handled=none) (Y:Env0 P w K mg base A outer s H) (hl:vs.length=ps.length) (r:Vals vs us)
  (x:InCallC s s.heap.objs.size (bindL (envOfC qual scope s.heap.objs.size f cd).kindOf (ps.zip us) λ_=>none) (cellsFrom (s.heap.objs.size+1) scope.names []) (bindC (envOfC qual scope s.heap.objs.size f cd).kindOf (ps.zip us) λ_=>none) s1) :
  Inv (bA5 CX P w K mg base N qual scope f cd A outer s H E) [] (Y6 N vs) H s1:=by
 have F:ps.length<=N.length:=by have:=congrArg List.length S.pre;rw[Ad1]at this;lia
 obtain⟨h1,tk,rfl,J⟩:=x.done;have X:∀b:Addr,b∉(bA5 CX P w K mg base N qual scope f cd A outer s H E).ex:=λb z=>absurd (show b∈([]:AL) from z) (by simp)
 refine⟨⟨Y.mod,S.kind,rfl,rfl,Aa7 _,λy z c h1 j=>?_,λy hy=>?_,λy c _ h=>?_,λ_=>Q,Around.frames_deeper Y.frames,.inr ⟨rfl,rfl⟩,λb z=>absurd z (X b),Y.bs,Y.bsz,λb _ _=>X b,λb z=>absurd z (X b),Y.funs,Y.frf⟩,
  rfl,Y.bare,Un.kept J,⟨_,x.toInCall.ns,λi y v h1 j h3=>?_⟩,λy c h=>⟨_,x.cell y c h⟩,Y.hok.fresh (Aa7 _),λy c h=>?_,λp hp=>absurd (show p∈([]:Eb) from hp) (by simp),Y.hok.kept J,?_⟩
 .exact name_of_addr x.apart (PySem.mem_of_lookup h1) (PySem.mem_of_lookup j)
 .have hy:scope.names.lookup y=some .cell\/scope.names.lookup y=some .free:=hy
  rcases hy with hy | hy
  .exact cL8 hy
  .exact absurd rfl (S.nofree _ (PySem.mem_of_lookup hy))
 .exact Cv (x.above y c (PySem.mem_of_lookup h))
 .have hi:i<vs.length:=by
   unfold Y6 at j;by_cases hi:i<vs.length
   .exact hi
   .rw[Bw (by simpa using hi)]at j
    rw[Ck]at j;split at j <;> cases j
  have R:vs[i]? = some v:=by
   unfold Y6 at j;rw[Ca (by simpa using hi),Aa9]at j
   cases e:vs[i]? with
   | none=>rw[e]at j;cases j
   | some a=>rw[e]at j;cases j;rfl
  obtain⟨u,M,B⟩:=r.get R;have hp:ps[i]? = some y:=by
   rw[<- S.pre,List.getElem?_take_of_lt (by lia)];exact h1
  have U:ps.Nodup:=by rw[<- S.pre];exact S.nd.sublist (List.take_sublist _ _)
  refine⟨u,B,?_⟩;rcases S.par y (Bb hp) with k | k
  .exact .inl ⟨k,bS8 U hp M k⟩
  .obtain⟨c,e⟩:=cL8 (n:=s.heap.objs.size+1) k;refine .inr ⟨.inl k,c,e,?_⟩;have q:=x.cell y c e;rw[bT3 U hp M (by show scope.names.lookup y≠_;rw[k];decide)]at q
   exact q
 .exact Y.hok.fresh (Cv (x.above y c (PySem.mem_of_lookup h)))
 .unfold Y6;show _=N.length;rw[Ab7,Aa3,Cw]
  lia
theorem eD4 {CX:CXT}{P:Program}{w:World}{K:Frag}{mg:Str->Option Value}{base:Heap}{k:Nat}{f:Addr}{name qual:Str}{params:Arguments}{body:List Stmt}{scope:Scope}{dV kV doc pm cdv ct oc:Value}{an od:AK}
  {osl:Array (Option Value)} {N ps:AH} {sp:Sp} (lk:K.lookup f=some ⟨oc,od,.func (PySem.W.fnOf name qual params body scope dV kV doc pm an cdv ct),osl⟩) (hcd:PySem.W.codeIn K cdv qual=true) (S:B8 N ps scope)
  (F:∀vs H Q E,sp vs H Q E->vs.length=ps.length)
  (j:∀(A:Around) (outer:List Env) (s:Shared) (H:Hp) (vs:List V) (Q:VK) (E:XK),Room k (A.deeper (envOfC qual scope s.heap.objs.size f cdv))->sp vs H Q E ->
   ∃t,PSs (bA5 CX P w K mg base N qual scope f cdv A outer s H E) body t/\t {nx:=λ_ H'=>Q .non H',rt:=Q} (Y6 N vs) H) :
  FnOk P w K mg base CX (k+1) f (PySem.W.fnOf name qual params body scope dV kV doc pm an cdv ct) ps sp:=by
 refine⟨F,λA outer s H args us vs Q E hr U hb r R=>?_⟩
 have hl:=F _ _ _ _ R
 have KX:K.In s.heap:=U.mod.kin.keeps λb o e=>(U.bs b o e).1
 have lim:s.heap.NoLimit:=U.mod.nolimit.keeps λb o e=>(U.bs b o e).1
 have Y:∀y∈ps.zip us,scope.names.lookup y.1=some .local\/(scope.names.lookup y.1=some .cell/\((cellsFrom (s.heap.objs.size+1) scope.names []).lookup y.1).isSome=true):=λ⟨n,v⟩ hy=>by
  rcases S.par n (List.of_mem_zip hy).1 with q | q
  .exact .inl q
  .exact .inr ⟨q,PySem.W.cellsFrom_some _ _ _ (.inl q)⟩
 refine codeAny_call_function hr.depth (KX _ _ lk) rfl S.co S.gen rfl (PySem.W.codeRec_of KX hcd) (hb _ _ _ _ ?_);refine wpAny_newFunctionEnv_cells S.kind Y λenv he s1 x=>?_
 subst he;refine⟨lim.keeps x.toInCall.keep,codeAny_func ?_⟩;obtain⟨t,ht,hq⟩:=j A outer s H vs Q E (hr.deeper _) R;have I:Inv (bA5 CX P w K mg base N qual scope f cdv A outer s H E) [] (Y6 N vs) H s1:=bT9 S hr.hd U hl r x;refine wpAny_mono (ht [] s1 (Y6 N vs) H _ I hq) (λfl s' X=>?_) λe s' X=>X
 have M:∀{B:St} {H':Hp} {v:V} {u:Value},Inv (bA5 CX P w K mg base N qual scope f cdv A outer s H E) [] B H' s'->RelV v u->Q v H'->CE outer P w H s Q u s':=
  λ{B H' v u} J rv q=>⟨v,H',J.os,J.bare,J.base,J.hok,rv,q⟩
 cases fl with
 | ret u=>
  obtain⟨v,B,H',J,rv,q⟩:=X;exact M J rv q
 | next=>
  obtain⟨B,H',J,q⟩:=X;exact M (v:=V.non) (u:=Value.none) J rfl q
 | brk=>
  obtain⟨_,_,_,q⟩:=X;exact False.elim q
 | cont=>
  obtain⟨_,_,_,q⟩:=X;exact False.elim q
section
variable {X:Cx}{x:Str}{p pos:Pos}{e:Expr}{es:AM}{t:TA}{id T:String}{r:List V->Hp->VK->Prop}
def tCB (r:List V->Hp->VK->Prop)(t:TA):TE:=λσ H Q=>t σ H λvs H1=>r vs H1 Q
theorem C0 (N:m6 X (.builtin id) r)(F:Gl X x)(B:X.mg x=none)(hv:bootBuiltins x=some (.builtin id))(M:PA X (e::es) t)(P:x≠"__name__" := by decide)(w:(x==("__debug__" : Str))=false:=by decide)
  (R:starEach (e::es) X.env=(false,eval e X.env)::starEach es X.env:=by rfl) (j:(backTo pos (starEach es X.env)).any (·.1)=false:=by rfl):PE X (.Call (.Name x p) (e::es) [] pos) (tCB r t):=by
 refine⟨?_⟩;intro Y s σ H Q I h;refine wpAny_Call_Name_kw (aO1 I F B hv ?_ P w);exact PyProof.Rows.callWith_builtin1 (thn (M pos Y s σ H _ I h) λus s1 ⟨vs,U,J,r1,q1⟩=>N Y s1 σ U vs us Q J r1 q1) R j
theorem K5 (N:m6 X (.type T) r)(F:Gl X x)(B:X.mg x=none)(hv:bootBuiltins x=some (.type T))(M:PA X (e::es) t)(P:x≠"__name__" := by decide)(w:(x==("__debug__" : Str))=false:=by decide)
  (R:starEach (e::es) X.env=(false,eval e X.env)::starEach es X.env:=by rfl) (j:(backTo pos (starEach es X.env)).any (·.1)=false:=by rfl):PE X (.Call (.Name x p) (e::es) [] pos) (tCB r t):=by
 refine⟨?_⟩;intro Y s σ H Q I h;refine wpAny_Call_Name_kw (aO1 I F B hv ?_ P w);exact Bs (thn (M pos Y s σ H _ I h) λus s1 ⟨vs,U,J,r1,q1⟩=>N Y s1 σ U vs us Q J r1 q1) R j
end
end L2
namespace HT
open PySem PyProof.Rows
def aA6:AD->AD->Bool
 | [],[]=>false
 | [],_::_=>true
 | _::_,[]=>false
 | x::xs,y::ys=>if x=y then aA6 xs ys else decide (x<y)
section
open PySem.SeqAt
open PySem.AutoSeq1 (wpAny_loadPart')
open PySem.MeetsSeq PySem.MeetsSeq2 PySem.MeetsSeq3
end
section
theorem dZ1 (ht:IsTup s.heap t vs.toArray)(hb:IsTup s.heap b ws.toArray)(hv:vs≠[])
  (h1:ws=[]->Q (.ref t) s) (h2:ws≠[]->Q (.ref s.heap.objs.size) {s with heap:=s.heap.push {cls:=.type "tuple",data:=.seq (vs++ws).toArray}})
  (hsz:vs.length+ws.length<=sizeLine):wpAny (model prog w) A (binaryOp .Add (.ref t) (.ref b)) Q E s:=by
 obtain⟨⟨cls,R,data,sl⟩,ho,B,n,P⟩:=id ht;obtain⟨⟨N,j,M,U⟩,r,Y,n2,X⟩:=id hb;simp only at B P Y X;subst B P Y X;have e:vs.toArray++ws.toArray=(vs++ws).toArray:=by simp
 by_cases J:ws=[]
 .exact concat_meets ⟨_,ho,rfl⟩ ⟨_,r,rfl⟩ noFill_tuple_add seq_tuple_add PySem.F.slot_tuple_add PySem.F.entry_tuple_add (PySem.F.args_tuple_add_2 _ _)
   (tuple_addW1 t b vs.toArray ws.toArray n n2 R j sl U (by simpa using hv) (by simp[J])) ⟨ho,r,h1 J⟩
 .refine concat_meets ⟨_,ho,rfl⟩ ⟨_,r,rfl⟩ noFill_tuple_add seq_tuple_add PySem.F.slot_tuple_add PySem.F.entry_tuple_add (PySem.F.args_tuple_add_2 _ _)
   (tuple_addW2 t b vs.toArray ws.toArray n n2 R j sl U (by simpa using hv) (by simpa using J) (by rw[Ab2,Ab2];exact hsz)) ⟨ho,r,?_⟩
  rw[e];exact h2 J
def sIx (n d:Nat):Option Int->Nat
 | none=>d
 | some v=>if v<0 then(v+(n:Int)).toNat else min v.toNat n
theorem eL8 (n d:Nat)(w:d<=n)(o:Option Int):sIx n d o<=n:=by
 cases o with
 | none=>exact w
 | some v=>
  show(if v<0 then(v+(n:Int)).toNat else min v.toNat n)<=n
  by_cases e:v<0
  .rw[Ac e];lia
  .rw[Ab e];exact Nat.min_le_right _ _
theorem cT6 (v:Int)(n d:Nat):(if v<0 then max (v+(n:Int)) 0 else min v (n:Int))=((sIx n d (some v):Nat):Int):=by
 show(if v<0 then max (v+(n:Int)) 0 else min v (n:Int))=(((if v<0 then(v+(n:Int)).toNat else min v.toNat n):Nat):Int)
 by_cases e:v<0
 .simp only[Ac e];lia
 .simp only[Ab e];lia
theorem cP8 (lo hi:Option Int)(n:Nat):Builtin.Slice.sliceAdjust lo hi 1 (n:Int)=(((sIx n 0 lo:Nat):Int),((sIx n n hi:Nat):Int)):=by
 have h1:¬((1:Int)<0):=by lia
 unfold Builtin.Slice.sliceAdjust;simp only[h1,if_false];refine Prod.ext ?_ ?_
 .cases lo with
  | none=>rfl
  | some v=>exact cT6 v n 0
 .cases hi with
  | none=>rfl
  | some v=>exact cT6 v n n
theorem cP2 (i j:Nat):Builtin.Slice.slicePlaces (i:Int) (j:Int) 1=j-i:=by
 unfold Builtin.Slice.slicePlaces;have h1:(1:Int)>0:=by lia
 simp only[h1,if_true,Int.ediv_one];split <;> lia
theorem bL4 (p:IsPart v o)(h:Q o s):wpAny (model prog w) A (Builtin.Slice.slicePartIndex v) Q E s:=by
 cases p with
 | none=>exact slicePart_none h
 | int i t=>exact slicePart_int h
theorem aC9 {sl:Addr}{vl vu:Value}{lo hi:Option Int}{n:Nat}{Q:Int×Int×Nat->Shared->Prop}(Y:s.heap.IsSliceOf sl vl vu .none)(pl:IsPart vl lo)(X:IsPart vu hi)
  (h:Q (((sIx n 0 lo:Nat):Int),1,sIx n n hi-sIx n 0 lo) s):wpAny (model prog w) A (Builtin.Slice.sliceApplied (.ref sl) (pure (n:Int))) Q E s:=by
 obtain⟨os,r,j,e⟩:=id Y;unfold Builtin.Slice.sliceApplied Builtin.Slice.sliceFields;refine Aa (Aa (wpAny_field r e (x:=vl) rfl (Aa (wpAny_field r e (x:=vu) rfl (Aa (wpAny_field r e (x:=.none) rfl (Ae ?_)))))));refine Aa (slicePart_none ?_);show wpAny _ _ (if((1:Int)==0)=true then _ else _) _ _ s;rw[Ab (by decide)]
 refine Aa (bL4 pl (Aa (bL4 X (Aa (Ae ?_)))));show wpAny _ _ (match Builtin.Slice.sliceAdjust lo hi 1 (n:Int) with | (lo,hi)=>pure (lo,(1:Int),Builtin.Slice.slicePlaces lo hi 1)) _ _ s
 rw[cP8 lo hi n];show wpAny _ _ (pure (((sIx n 0 lo:Nat):Int),(1:Int),Builtin.Slice.slicePlaces ((sIx n 0 lo:Nat):Int) ((sIx n n hi:Nat):Int) 1)) _ _ s;rw[cP2];exact Ae h
theorem dI6 (xs:AJ)(i k:Nat):((List.range k).filterMap λ(m:Nat)=>xs[((i:Int)+(m:Int)*1).toNat]?).toArray=((xs.toList.drop i).take k).toArray:=by
 have e:(λ(m:Nat)=>xs[((i:Int)+(m:Int)*1).toNat]?)=λm=>xs[i+m]? := by
  funext m
  have:((i:Int)+(m:Int)*1).toNat=i+m:=by lia
  rw[this]
 rw[e]
 have:=pick_run xs i k
 rw[Df]at this;have w:((λx=>xs[x]?) ∘ λx=>i+x)=λm=>xs[i+m]? := rfl
 rw[w]at this;rw[this]
theorem bB4 {t sl:Addr}{items:AJ}{vl vu:Value}{lo hi:Option Int}{Q:Dz}(r:IsTup s.heap t items)(J:s.heap.IsSliceOf sl vl vu .none)(pl:IsPart vl lo)(R:IsPart vu hi)
  (N:¬(sIx items.size 0 lo=0/\sIx items.size items.size hi=items.size))
  (h:Q (.ref s.heap.objs.size) {s with heap:=s.heap.push {cls:=.type "tuple",data:=.seq ((items.toList.drop (sIx items.size 0 lo)).take (sIx items.size items.size hi-sIx items.size 0 lo)).toArray}})
  (hsz:items.size<=sizeLine):wpAny (model prog w) A (getItem (.ref t) (.ref sl)) Q E s:=by
 have e:sizeOk (.seq ((items.toList.drop (sIx items.size 0 lo)).take (sIx items.size items.size hi-sIx items.size 0 lo)).toArray):=by
  show((items.toList.drop (sIx items.size 0 lo)).take (sIx items.size items.size hi-sIx items.size 0 lo)).toArray.size<=sizeLine
  rw[Ab2,Ad1,Bm,Bj]
  lia
 have F:sIx items.size items.size hi<=items.size:=eL8 _ _ (Aa7 _) hi
 obtain⟨os,U,Y,M⟩:=id J;have j:s.TypeIs (.ref sl) "slice" := ⟨os,U,Y⟩;unfold getItem
 try with_reducible refine Ce ?_
 first | refine Aa (Ae ?_) | skip
 refine Aa (wpAny_sequenceKey r.typeIs (by decide) ?_)
 refine Aa (Ct (name:=Str.ofString "__getitem__") r.typeIs Bi
  (Da Bi r.typeIs entry_tuple_getitem ?_ (args_tuple_getitem _ _)))
 show wpAny _ _ (Builtin.Tuple.tupleItemsOf (.ref t) >>= _) _ _ s
 refine Aa (tupleItemsOf_ r ?_);refine Aa (wpAny_typeOf j ?_);rw[Ac (by decide)]
 refine Aa (aC9 J pl R ?_);have X:¬((((sIx items.size 0 lo:Nat):Int)==0&&(1:Int)==1&&(sIx items.size items.size hi-sIx items.size 0 lo)==items.size)=true):=by
  intro q;rw[Ap,Ap]at q;have B:((sIx items.size 0 lo:Nat):Int)=0:=eq_of_beq q.1.1;have P:sIx items.size items.size hi-sIx items.size 0 lo=items.size:=eq_of_beq q.2;exact N ⟨by lia,by lia⟩
 show wpAny _ _ (if(((sIx items.size 0 lo:Nat):Int)==0&&(1:Int)==1&&(sIx items.size items.size hi-sIx items.size 0 lo)==items.size)=true then _ else _) _ _ s
 rw[Ab X,dI6];first
  | exact Aa (m:=Builtin.Tuple.tupleExact _) (Cj (Ae ⟨_,rfl,Ae h⟩) e)
  | exact Aa (m:=Builtin.Tuple.tupleExact _) (Cj (Aa (Ae (Ae ⟨_,rfl,Ae h⟩))) e)
  | exact Aa (Aa (m:=Builtin.Tuple.tupleExact _) (Cj (Ae (Ae ⟨_,rfl,Ae h⟩)) e))
  | exact Aa (Aa (m:=Builtin.Tuple.tupleExact _) (Cj (Ae ⟨_,rfl,Ae h⟩) e))
end
end HT
namespace L2
open PySem PySem.Spec PyProof.Rows
abbrev TO:=St->Hp->(Option Int->Hp->Prop)->Prop
structure PO (X:Cx)(e:Option Expr)(t:TO):Prop where
 mk ::
 run :
  ∀(bA:Eb) (s:Shared) (σ:St) (H:Hp) (Q:Option Int->Hp->Prop),Inv X bA σ H s->t σ H Q ->
   wpAny (model X.prog X.w) X.A (evalPart e X.env) (λu s'=>∃o H',Inv X bA σ H' s'/\IsPart u o/\Q o H') X.xe s
instance {X:Cx} {e:Option Expr} {t:TO}:CoeFun (PO X e t) λ_=>
 (∀(bA:Eb) (s:Shared) (σ:St) (H:Hp) (Q:Option Int->Hp->Prop),Inv X bA σ H s->t σ H Q ->
  wpAny (model X.prog X.w) X.A (evalPart e X.env) (λu s'=>∃o H',Inv X bA σ H' s'/\IsPart u o/\Q o H') X.xe s):=⟨PO.run⟩
def cV0:TO:=λ_ H Q=>Q none H
def eE7 (t:TE):TO:=λσ H Q=>t σ H λx H1=>∃i,x=.int i/\Q (some i) H1
section
variable {X:Cx}{e:Expr}{te:TE}{lo hi:Option Expr}{tl th:TO}{pos p2:Pos}
theorem Z1:PO X none cV0:=by
 refine⟨?_⟩;intro w s σ H Q I h;rw[evalPart_none];exact Ae ⟨none,H,I,.none,h⟩
theorem S0 (h:PE X e te):PO X (some e) (eE7 te):=by
 refine⟨?_⟩;intro j s σ H Q I Y;rw[evalPart_some];refine thn (h j s σ H _ I Y) λu M ⟨x,w,r,J,U⟩=>?_
 obtain⟨i,rfl,q⟩:=U;obtain⟨t,rfl⟩:=J;exact⟨some i,w,r,.int i t,q⟩
def SlR (X:Cx)(r:V->Option Int->Option Int->Hp->VK->Prop):Prop:=
 ∀(bA:Eb) (s:Shared) (σ:St) (H:Hp) (x:V) (v vl vu:Value) (lo hi:Option Int) (sl:Addr) (Q:VK),Inv X bA σ H s->RelV x v->s.heap.IsSliceOf sl vl vu .none->IsPart vl lo->IsPart vu hi->r x lo hi H Q ->
  ∃T id,typeLookup (.type T) "__getitem__" = pure (some (.builtin id))/\s.TypeIs v T/\wpAny (model X.prog X.w) X.A (getItem v (.ref sl)) (EP X bA σ Q) X.xe s
def tSl (r:V->Option Int->Option Int->Hp->VK->Prop)(te:TE)(tl th:TO):TE:=λσ H Q=>te σ H λx H1=>tl σ H1 λl H2=>th σ H2 λu H3=>r x l u H3 Q
theorem P9 (hr:SlR X r)(he:PE X e te)(hl:PO X lo tl)(hu:PO X hi th):PE X (.Subscript e (.Slice lo hi none p2) pos) (tSl r te tl th):=by
 refine⟨?_⟩;intro Y s σ H Q I h;refine Subscript_ (thn (he Y s σ H _ I h) λv s1 ⟨x,N,F,r1,q1⟩=>?_)
 refine wpAny_Slice (thn (hl Y s1 σ N _ F q1) λU s2 ⟨l,R,B,pl,q2⟩=>thn (hu Y s2 σ R _ B q2) λJ j ⟨u,M,P,pu,q3⟩=>?_)
 rw[evalPart_none];refine Ae ?_;have I4:Inv X Y σ M {j with heap:=j.heap.push {cls:=.type "slice",data:=.fields #[U,J,.none]}}:=P.kept (t':=j.toks) λb ob q=>Aa6 _ q
 obtain⟨T,id,hT,ht,hg⟩:=hr Y {j with heap:=j.heap.push {cls:=.type "slice",data:=.fields #[U,J,.none]}} σ M x v U J l u j.heap.objs.size Q I4 r1 (Heap.IsSliceOf.new ..) pl pu q3
 show wpAny (model X.prog X.w) X.A (subscriptTail e (.Slice lo hi none p2) v (.ref j.heap.objs.size)) (EP X Y σ Q) X.xe {j with heap:=j.heap.push {cls:=.type "slice",data:=.fields #[U,J,.none]}}
 exact tail_any (ops:=[.ref j.heap.objs.size,v]) ht hT hg (by with_unfolding_all rfl)
def bY1 (xs:List V)(lo hi:Option Int):List V:=(xs.drop (HT.sIx xs.length 0 lo)).take (HT.sIx xs.length xs.length hi-HT.sIx xs.length 0 lo)
theorem bI7 (xs:List V)(lo hi:Option Int):(bY1 xs lo hi).length<=xs.length:=by
 unfold bY1;rw[Ad1,Bm]
 lia
def eY6 (K:Frag):V->Option Int->Option Int->Hp->VK->Prop:=λx lo hi H Q=>∃a xs,x=.ref a/\SqT K H a xs /\
 ¬(HT.sIx xs.length 0 lo=0/\HT.sIx xs.length xs.length hi=xs.length)/\∀p,H p=none->Q (.ref p) (upd H p (.tup (bY1 xs lo hi)))
theorem eN4:SlR X (eY6 X.K):=by
 intro B s σ H x v vl vu lo hi sl Q I F U N R h;obtain⟨a,xs,rfl,M,J,q⟩:=h;cases F;obtain⟨its,r,j,Y⟩:=I.tuple M;have w:its.toArray.size=xs.length:=by rw[Ab2];exact r.length.symm
 refine⟨"tuple",_,Bi.lookup,j.typeIs,?_⟩;refine HT.bB4 j U N R (by rw[w];exact J) ?_ (by rw[w];exact Y)
 rw[w];refine⟨.ref s.heap.objs.size,_,I.laid (t':=s.toks) (o:=.tup (bY1 xs lo hi)) (λb P q=>Aa6 _ q) (Aa7 _) ?_,rfl,q _ (I.hok.fresh (Aa7 _))⟩
 exact⟨Bd (bI7 xs lo hi) Y,_,(r.drop (HT.sIx xs.length 0 lo)).take (HT.sIx xs.length xs.length hi-HT.sIx xs.length 0 lo),Tup0.nw _ _ _⟩
def dS7 (K:Frag):R2:=λx y H Q=>∃a b xs ys,x=.ref a/\y=.ref b/\SqT K H a xs/\SqT K H b ys/\xs≠[]/\xs.length+ys.length<=sizeLine /\
 (ys=[]->Q (.ref a) H)/\(ys≠[]->∀p,H p=none->Q (.ref p) (upd H p (.tup (xs++ys))))
theorem Vals.nil_iff (r:Vals xs us):us=[]↔xs=[]:=by
 cases r with
 | nil=>simp
 | cons _ _=>simp
theorem dY1:OpR X (binaryOp .Add) (dS7 X.K):=by
 intro bA s σ H x y v u Q I P ry h;obtain⟨a,b,xs,ys,rfl,rfl,J,M,N,Y,F,B⟩:=h;cases P;cases ry;obtain⟨its,j,R,_⟩:=I.tuple J;obtain⟨U,r,p2,_⟩:=I.tuple M;refine HT.dZ1 R p2 (λz=>N (j.nil_iff.mp z)) (λz=>⟨.ref a,H,I,rfl,F (r.nil_iff.mp z)⟩) (λz=>?_) (by rw[<- j.length,<- r.length];exact Y)
 refine⟨.ref s.heap.objs.size,_,I.laid (t':=s.toks) (o:=.tup (xs++ys)) (λb ob q=>Aa6 _ q) (Aa7 _) ?_,rfl,B (λw=>z (r.nil_iff.mpr w)) _ (I.hok.fresh (Aa7 _))⟩
 exact⟨by rw[Ab7];exact Y,_,j.append r,Tup0.nw _ _ _⟩
end
def ixN (n:Nat)(i:Int):Option Nat:=if 0<=i then(if i<n then some i.toNat else none) else if -(n:Int)<=i then some (i+n).toNat else none
def atI {α:Type}(xs:List α)(i:Int):Option α:=(ixN xs.length i).bind λj=>xs[j]?
theorem bZ6 (h:ixN n i=some j):seqIndex? i n=some j/\j<n /\ -(n:Int)<=i/\i<n:=by
 unfold ixN at h;by_cases w:0<=i
 .rw[Ac w]at h;by_cases h1:i<n
  .rw[Ac h1]at h;have e:i.toNat=j:=Ab4 h;exact⟨by rw[seqIndex_of w h1,e],by lia,by lia,h1⟩
  .rw[Ab h1]at h;cases h
 .rw[Ab w]at h;by_cases h1 : -(n:Int)<=i
  .rw[Ac h1]at h;have e:(i+n).toNat=j:=Ab4 h;exact⟨by rw[seqIndex_neg (by lia) h1,e],by lia,h1,by lia⟩
  .rw[Ab h1]at h;cases h
theorem cB7 (h:atI xs i=some v):∃j,seqIndex? i xs.length=some j/\xs[j]? = some v/\j<xs.length /\ -(xs.length:Int)<=i/\i<xs.length:=by
 unfold atI at h;cases e:ixN xs.length i with
 | none=>rw[e]at h;cases h
 | some j=>
  rw[e]at h;obtain⟨h1,w,r,s⟩:=bZ6 e;exact⟨j,h1,h,w,r,s⟩
def eA4 (b:Expr):Prop:=∀o i,subscripted b false o i=operate [o,i] (getItem o i)
def IxR (X:Cx)(r:R2):Prop:=
 ∀(value slice:Expr) (bA:Eb) (s:Shared) (σ:St) (H:Hp) (x y:V) (v u:Value) (Q:VK),Inv X bA σ H s->RelV x v->RelV y u->r x y H Q ->
  subscripted slice false v u=operate [v,u] (getItem v u)->wpAny (model X.prog X.w) X.A (subscriptTail value slice v u) (EP X bA σ Q) X.xe s
def MtR (X:Cx)(id:String)(r:V->List V->Hp->VK->Prop):Prop:=
 ∀(bA:Eb) (s:Shared) (σ:St) (H:Hp) (x:V) (xs:List V) (v:Value) (us:AG) (Q:VK),Inv X bA σ H s->RelV x v->Vals xs us->r x xs H Q ->
  wpAny (model X.prog X.w) X.A (call (.builtin id) (v::us)) (EP X bA σ Q) X.xe s
section
variable {X:Cx}{a b:Expr}{ta tb:TE}{pos:Pos}
theorem IxR.or (h:IxR X r)(h':IxR X r'):IxR X (λx y H Q=>r x y H Q\/r' x y H Q):=by
 intro w e j s σ H x y v u Q I U J q Y;rcases q with q | q
 .exact h w e j s σ H x y v u Q I U J q Y
 .exact h' w e j s σ H x y v u Q I U J q Y
theorem B4 (J:IxR X r)(Y:PE X a ta)(U:PE X b tb)(M:eA4 b):PE X (.Subscript a b pos) (tOp r ta tb):=by
 refine⟨?_⟩;intro j s σ H Q I h;exact Subscript_ (eG6 Y U I h λv u F x y e w N R q=>J a b j F σ e x y v u Q w N R q (M _ _))
def eU1 (K:Frag):R2:=λx y H Q=>∃p xs i v,x=.ref p/\y=.int i/\SqL K H p xs/\atI xs i=some v/\Q v H
def eO9 (K:Frag):R2:=λx y H Q=>∃p xs i v,x=.ref p/\y=.int i/\SqT K H p xs/\atI xs i=some v/\Q v H
def eS0:R2:=λx y H Q=>∃z i c,x=.str z/\y=.int i/\z.length<=sizeLine/\atI z.cps.toList i=some c/\Q (.str ⟨#[c]⟩) H
theorem ix_list:IxR X (eU1 X.K):=by
 intro N M R s σ H x y v u Q I rx ry h P;obtain⟨p,xs,i,z,rfl,rfl,hq,he,q⟩:=h;cases rx;obtain⟨t,rfl⟩:=ry;obtain⟨its,r,U,hz⟩:=I.list hq;obtain⟨j,h1,h2,h3,h4,h5⟩:=cB7 he;obtain⟨w,F,J⟩:=r.get h2;have hl:=r.length;have hn:=bF5;have e:EP X R σ Q w s:=⟨z,H,I,J,q⟩;by_cases B:0<=i
 .have Y:i.toNat=j:=by
   rw[seqIndex_of B h5]at h1;exact Ab4 h1
  exact item_listR U.isList B (by lia) (by rw[Y];simpa using F) e P
 .have Y:(i+(its.toArray.size:Int)).toNat=j:=by
   rw[seqIndex_neg (by lia) h4]at h1
   rw[Ab2,<- hl];exact Ab4 h1
  exact subscriptTail_builtinR (x:=w) U.isList.typeIs slot_list_getitem.lookup
   (wpAny_getItem_list_neg (Q:=λr s'=>r=w/\EP X R σ Q r s') U.isList (by lia) (by rw[Ab2] <;> lia) (by lia) (by rw[Y];simpa using F) ⟨rfl,e⟩) P
theorem ix_tup:IxR X (eO9 X.K):=by
 intro J U M s σ H x y v u Q I rx ry h hs;obtain⟨p,xs,i,z,rfl,rfl,hq,B,q⟩:=h;cases rx;obtain⟨t,rfl⟩:=ry;obtain⟨its,r,N,hz⟩:=I.tuple hq;obtain⟨j,h1,F,h3,h4,h5⟩:=cB7 B;obtain⟨w,R,Y⟩:=r.get F;have P:=r.length;have hn:=bF5;have e:EP X M σ Q w s:=⟨z,H,I,Y,q⟩;exact subscriptTail_builtinR (x:=w) N.typeIs slot_tuple_getitem.lookup
  (getItem_tuple (j:=j) (Q:=λr s'=>r=w/\EP X M σ Q r s') N (by lia) (by lia) (by rw[Ab2,<- P];exact h1) (by simpa using R) ⟨rfl,e⟩) hs
theorem eJ6:IxR X eS0:=by
 intro w e bA s σ H x y v u Q I B P h F;obtain⟨z,i,c,rfl,rfl,hz,N,q⟩:=h;obtain⟨t,rfl⟩:=B;obtain⟨t',rfl⟩:=P;obtain⟨j,h1,U,h3,J,M⟩:=cB7 N;have R:z.cps.toList.length=z.length:=by simp[Str.length]
 rw[R]at h1 J M;have hn:=bF5;exact tail_any (typeIs_str s z t) slot_str_getitem.lookup (getItem_str (c:=c) (by
  have r:decide (i < -(2^63:Int))=false:=Aw (by lia)
  have Y:decide (i≥2^63)=false:=Aw (by lia)
  rw[r,Y,Bool.or_false]) (by rw[h1];simpa using U) ⟨.str ⟨#[c]⟩,H,I.tok _,⟨_,rfl⟩,q⟩) F
def rIx (K:Frag):R2:=λx y H Q=>eU1 K x y H Q\/eO9 K x y H Q\/eS0 x y H Q
theorem F4:IxR X (rIx X.K):=ix_list.or (ix_tup.or eJ6)
theorem cP7 (its:AG)(n j:Nat)(u:Value):Obj.mapSeq (·.setIfInBounds j u) {cls:=.type "list",data:=.seq its.toArray n}={cls:=.type "list",data:=.seq (its.set j u).toArray n}:=by
 simp[Obj.mapSeq]
theorem Inv.lst (I:Inv X bA σ H s)(h:H p=some (.lst xs)) :
  ∃(its:AG) (n:Nat),Vals xs its/\s.heap.get? p=some {cls:=.type "list",data:=.seq its.toArray n}/\xs.length<=sizeLine:=by
 obtain⟨z,its,n,r,e⟩:=I.hok p _ h;exact⟨its,n,r,e,z⟩
theorem Inv.lstUpd {bA:Eb}{σ:St}{H:Hp}{s:Shared}{p:Addr}{xs ys:List V}{its its':AG}{n n':Nat}{f:Obj->Obj}(I:Inv X bA σ H s)(h:H p=some (.lst xs))
  (ho:s.heap.get? p=some {cls:=.type "list",data:=.seq its.toArray n}) (w:f {cls:=.type "list",data:=.seq its.toArray n}={cls:=.type "list",data:=.seq its'.toArray n'}) (r:Vals ys its') (Y:ys.length<=sizeLine) (t:Nat) :
  Inv X bA σ (upd H p (.lst ys)) {s with heap:=s.heap.update p f,toks:=t}:=by
 have e:(s.heap.update p f).get? p=some {cls:=.type "list",data:=.seq its'.toArray n'}:=by
  rw[Ci f ho (by rw[w] <;> rfl),w]
 refine I.write (x:=p) (e:=p) (by rw[h];trivial) (.inl rfl) (λb u j q=>(Bz _ _ (Ne.symm j)).trans q) ⟨_,e⟩ ?_
 exact⟨Y,its',n',r,e⟩
def cU5:V->V->V->Hp->(Hp->Prop)->Prop:=λo i v H Q=>∃p xs k j,o=.ref p/\i=.int k/\H p=some (.lst xs)/\ixN xs.length k=some j/\Q (upd H p (.lst (xs.set j v)))
theorem m5:eR9 X cU5:=by
 intro N s σ H o i v ov iv u Q I P B rv h;obtain⟨p,xs,k,j,rfl,rfl,hp,R,q⟩:=h;cases P;obtain⟨t,rfl⟩:=B;obtain⟨its,n,r,ho,F⟩:=I.lst hp;obtain⟨h1,h2,J,M⟩:=bZ6 R;have w:=r.length;have hn:=bF5;have Y:Inv X N σ (upd H p (.lst (xs.set j v))) {s with heap:=s.heap.update p (Obj.mapSeq (·.setIfInBounds j u))}:=
  I.lstUpd hp ho (cP7 its n j u) (r.set rv j) (by rw[Dj];exact F) s.toks
 by_cases U:0<=k
 .have e:k.toNat=j:=by
   rw[seqIndex_of U M]at h1;exact Ab4 h1
  exact PySem.W.ki_setAt ho U (by lia) (by rw[Ab2,<- w];exact M) (by rw[e];exact⟨_,Y,q⟩)
 .have e:(k+(its.toArray.size:Int)).toNat=j:=by
   rw[seqIndex_neg (by lia) J]at h1
   rw[Ab2,<- w];exact Ab4 h1
  exact PySem.W.ki_setBack ho (by lia) (by rw[Ab2,<- w];exact J) (by lia) (by rw[e];exact⟨_,Y,q⟩)
theorem bZ0 (lo hi:Option Int)(n:Nat):(sliceBounds lo hi none n).1=((HT.sIx n 0 lo:Nat):Int)/\(sliceBounds lo hi none n).2.1=((HT.sIx n n hi:Nat):Int)/\(sliceBounds lo hi none n).2.2=1:=by
 refine⟨?_,?_,rfl⟩
 .cases lo with
  | none=>simp[sliceBounds,HT.sIx]
  | some i=>
   simp only[sliceBounds,HT.sIx,Option.getD_none,show(1:Int)>0 by decide,if_true]
   by_cases h:i<0
   .simp only[h,if_true] <;> lia
   .simp only[h,if_false] <;> lia
 .cases hi with
  | none=>simp[sliceBounds,HT.sIx]
  | some i=>
   simp only[sliceBounds,HT.sIx,Option.getD_none,show(1:Int)>0 by decide,if_true]
   by_cases h:i<0
   .simp only[h,if_true] <;> lia
   .simp only[h,if_false] <;> lia
theorem bR2 (its:AG)(lo hi:Option Int):slicePick its.toArray lo hi none=((its.drop (HT.sIx its.length 0 lo)).take (HT.sIx its.length its.length hi-HT.sIx its.length 0 lo)).toArray:=by
 obtain⟨h1,e,w⟩:=bZ0 lo hi its.toArray.size;unfold slicePick;rw[h1,e,w];simp only[sliceRange_one,pick_run,Ab2] <;> rfl
def eG9 (K:Frag):V->Option Int->Option Int->Hp->VK->Prop:=λx lo hi H Q=>∃a xs,x=.ref a/\SqL K H a xs/\∀p,H p=none->Q (.ref p) (upd H p (.lst (bY1 xs lo hi)))
theorem cA5:SlR X (eG9 X.K):=by
 intro R s σ H x v P vu lo hi B Q I N j J M h;obtain⟨a,xs,rfl,Y,q⟩:=h;cases N;obtain⟨its,r,w,U⟩:=I.list Y;have e:=r.length;refine⟨"list",_,slot_list_getitem.lookup,w.isList.typeIs,?_⟩;refine wpAny_getItem_list_slice w.isList j J M .none (by simp) ?_ (by rw[Ab2] <;> lia)
 rw[bR2,<- e];refine⟨.ref s.heap.objs.size,_,I.laid (t':=s.toks) (o:=.lst (bY1 xs lo hi)) (λb F q=>Aa6 _ q) (Aa7 _) ?_,rfl,q _ (I.hok.fresh (Aa7 _))⟩
 exact⟨Bd (bI7 xs lo hi) U,_,0,(r.drop (HT.sIx xs.length 0 lo)).take (HT.sIx xs.length xs.length hi-HT.sIx xs.length 0 lo),Ac3 _ rfl⟩
theorem P0:m6 X (.builtin "len") (λxs H Q=>∃p ys,xs=[.ref p]/\(SqL X.K H p ys\/SqT X.K H p ys)/\Q (.int ys.length) H):=by
 intro J s σ H xs N Q I r h;obtain⟨p,ys,rfl,hq,q⟩:=h;obtain⟨u,rfl,U⟩:=aR3 r;cases U;have M:=bF5;rcases hq with hq | hq
 .obtain⟨its,j,w,Y⟩:=I.list hq;have e:=j.length;exact Calls.call_len_list w.isList (by simp only[Ab2] <;> lia) ⟨.int ys.length,H,I.tok _,⟨s.toks+1,by rw[Ab2,e]⟩,q⟩
 .obtain⟨its,j,w,Y⟩:=I.tuple hq;have e:=j.length;exact len_tuple w (by simp only[Ab2] <;> lia) ⟨.int ys.length,H,I.tok _,⟨s.toks+1,by rw[Ab2,e]⟩,q⟩
theorem bY2:m6 X (.type "list") (λxs H Q=>∃p ys,xs=[.ref p]/\(SqL X.K H p ys\/SqT X.K H p ys)/\∀l,H l=none->Q (.ref l) (upd H l (.lst ys))):=by
 intro bA s σ H xs us Q I r h;obtain⟨p,ys,rfl,hq,q⟩:=h;obtain⟨u,rfl,rx⟩:=aR3 r;cases rx;have J:∀(its:AG),Vals ys its->ys.length<=sizeLine->∀(j:Heap) (Y:Nat),(∀b o',s.heap.get? b=some o'->j.get? b=some o') ->
   j.get? s.heap.objs.size=some {cls:=.type "list",dict:=none,data:=.seq its.toArray Y,slots := #[]}->EP X bA σ Q (.ref s.heap.objs.size) {s with heap:=j}:=λits U N j Y R e=>
  ⟨.ref s.heap.objs.size,_,I.laid (t':=s.toks) R (Aa7 _) (show ObjOk X.prog X.w _ j _ (.lst ys) from⟨N,its,Y,U,e⟩),rfl,q _ (I.hok.fresh (Aa7 _))⟩
 rcases hq with hq | hq
 .obtain⟨its,U,P,N⟩:=I.list hq;have M:=U.length;obtain⟨o,ho,F,n,B⟩:=P.isList;exact call_list_seq p (.inl rfl) ho F B (λj Y R e=>J its U N j Y R e) (by simp only[Ab2] <;> lia)
 .obtain⟨its,U,P,N⟩:=I.tuple hq;have M:=U.length;obtain⟨o,ho,F,n,B⟩:=P;exact call_list_seq p (.inr rfl) ho F B (λj Y R e=>J its U N j Y R e) (by simp only[Ab2] <;> lia)
theorem V9:m6 X (.type "tuple") (λxs H Q=>∃p ys,xs=[.ref p]/\((SqL X.K H p ys/\∀l,H l=none->Q (.ref l) (upd H l (.tup ys)))\/(SqT X.K H p ys/\Q (.ref p) H))):=by
 intro N s σ H xs us Q I r h;obtain⟨p,ys,rfl,h⟩:=h;obtain⟨u,rfl,rx⟩:=aR3 r;cases rx;rcases h with⟨Y,q⟩ | ⟨Y,q⟩
 .obtain⟨its,J,U,F⟩:=I.list Y;have R:=J.length;refine call_tuple_list U.isList (λj P=>?_) (by simp only[Ab2] <;> lia)
  have M:Inv X N σ H {s with heap:=j}:=I.kept (t':=s.toks) P
  have B:Inv X N σ (upd H j.objs.size (.tup ys)) {s with heap:=j.push {cls:=.type "tuple",data:=.seq its.toArray}}:=
   M.laid (t':=s.toks) (λb o e=>Aa6 _ e) (Aa7 _) (show ObjOk X.prog X.w _ _ _ (.tup ys) from⟨F,its,J,Tup0.nw _ _ _⟩)
  exact⟨.ref j.objs.size,_,B,rfl,q _ (M.hok.fresh (Aa7 _))⟩
 .obtain⟨its,J,U,F⟩:=I.tuple Y;exact call_tuple_same U ⟨.ref p,H,I,rfl,q⟩
def tyV (K:Frag)(T:String)(x:V)(H:Hp):Prop:=match x with
 | .str _=>T = "str"
 | .int _=>T = "int"
 | .ref p=>(T = "list" /\ ∃xs,SqL K H p xs)\/(T = "tuple" /\ ∃xs,SqT K H p xs) \/
   (T = "dict" /\ ((∃kvs,H p=some (.dK kvs))\/∃kvs,H p=some (.dT kvs)))\/(T = "set" /\ ∃S n,H p=some (.set S n))
 | _=>False
theorem dR5 (I:Inv X bA σ H s)(r:RelV x v)(ty:tyV X.K T x H) :
  s.TypeIs v T/\∀a,v=.ref a->∃ob,s.heap.get? a=some ob/\ob.dict=none:=by
 cases x with
 | str z=>
  obtain⟨t,rfl⟩:=r;cases (show T = "str" from ty)
  exact⟨typeIs_str s z t,λ_ e=>nomatch e⟩
 | int i=>
  obtain⟨t,rfl⟩:=r;cases (show T = "int" from ty)
  exact⟨typeIs_int s i t,λ_ e=>nomatch e⟩
 | ref p=>
  cases r
  rcases ty with⟨rfl,xs,U⟩ | ⟨rfl,xs,U⟩ | ⟨rfl,j⟩ | ⟨rfl,S,n,j⟩
  .obtain⟨its,_,J,_⟩:=I.list U;refine⟨J.isList.typeIs,λa e=>?_⟩
   cases e
   obtain⟨o,n,e,c,R,_⟩:=J;exact⟨o,e,R⟩
  .obtain⟨its,_,Q,_⟩:=I.tuple0 U;obtain⟨o,h1,M,_,N⟩:=Q;refine⟨⟨o,h1,M⟩,λa e=>?_⟩
   cases e
   exact⟨o,h1,N⟩
  .have z:∃o,s.heap.get? p=some o/\o.ExactDict:=by
    rcases j with⟨kvs,j⟩ | ⟨kvs,j⟩
    .obtain⟨_,_,_,_,o,_,_,e,w,_⟩:=I.hok p _ j;exact⟨o,e,w⟩
    .obtain⟨_,_,_,_,o,_,_,e,w,_⟩:=I.hok p _ j;exact⟨o,e,w⟩
   obtain⟨o,e,w⟩:=z;refine⟨⟨o,e,w.1⟩,λa Y=>?_⟩
   cases Y
   exact⟨o,e,w.2.1⟩
  .obtain⟨o,_,_,_,e,w,_⟩:=I.hok p _ j;refine⟨⟨o,e,w.1⟩,λa Y=>?_⟩
   cases Y
   exact⟨o,e,w.2.1⟩
 | _=>exact False.elim ty
def eJ5 (K:Frag)(T:String)(r:V->List V->Hp->VK->Prop)(to:TE):TE:=λσ H Q=>to σ H λx H1=>tyV K T x H1/\r x [] H1 Q
def tBM (K:Frag)(T:String)(r:V->List V->Hp->VK->Prop)(to:TE)(t:TA):TE:=λσ H Q=>to σ H λx H1=>tyV K T x H1/\t σ H1 λxs H2=>r x xs H2 Q
variable {o e:Expr}{es:AM}{to:TE}{t:TA}{name:Str}{apos cpos:Pos}{T id:String}{r:V->List V->Hp->VK->Prop}
theorem cA6 (pa:PlainAttrs T)(slot:Slot T name id)(Y:typeOf (.builtin id)=pure (.type "method_descriptor"))(F:MtR X id r)(ho:PE X o to)
  (w:attributeBase o name X.env (eval o X.env)=eval o X.env:=by rfl) (j:(apos.endLine==cpos.line)=true:=by rfl):PE X (.Call (.Attribute o name apos) [] [] cpos) (eJ5 X.K T r to):=by
 refine⟨?_⟩;intro J s σ H Q I h;refine wpAny_Call_method0_late w j (thn (ho J s σ H _ I h) λv P ⟨x,N,U,M,ty,B⟩=>?_)
 obtain⟨h1,R⟩:=dR5 U M ty;exact⟨T,id,pa,slot,Y,h1,R,Calls.callWith_builtin rfl (PySem.evalArgs_none (F J P σ N x [] v [] Q U M .nil B))⟩
theorem S7 (pa:PlainAttrs T)(slot:Slot T name id)(M:typeOf (.builtin id)=pure (.type "method_descriptor"))(hm:MtR X id r)(ho:PE X o to)(ha:PA X (e::es) t)
  (j:attributeBase o name X.env (eval o X.env)=eval o X.env:=by rfl)
  (U:((backTo cpos (starEach (e::es) X.env)).all (λx => !x.1)&&(backToKw cpos (keywordEach [] X.env)).all (λx=>x.1.isSome)
   && decide ((e::es).length+([]:List Keyword).length+(if([]:List Keyword).isEmpty then 0 else 1)<30))=true:=by rfl)
  (Y:(apos.endLine==cpos.line)=true:=by rfl) (hs:starEach (e::es) X.env=(false,eval e X.env)::starEach es X.env:=by rfl) (w:(backTo cpos (starEach es X.env)).any (·.1)=false:=by rfl) :
  PE X (.Call (.Attribute o name apos) (e::es) [] cpos) (tBM X.K T r to t):=by
 refine⟨?_⟩;intro J s σ H Q I h;refine wpAny_Call_method_late j U Y rfl (thn (ho J s σ H _ I h) λv s1 ⟨x,B,N,F,ty,q1⟩=>?_)
 obtain⟨h1,h2⟩:=dR5 N F ty;refine⟨T,id,pa,slot,M,h1,h2,?_⟩;have R:=ha cpos J s1 σ B _ N q1;rw[hs]at R ⊢;refine Calls.callWith_builtin (by show(false||(backTo cpos (starEach es X.env)).any (·.1))=false;rw[w] <;> rfl) (Calls.evalArgs_plain ?_)
 exact thn R λus s2 ⟨vs,P,I2,r2,q2⟩=>hm J s2 σ P x vs v us Q I2 F r2 q2
end
def MtM (X:Cx)(id:String)(r:V->List V->Hp->VK->Prop):Prop:=
 ∀(bA:Eb) (s:Shared) (σ:St) (H:Hp) (x:V) (xs:List V) (v:Value) (us:AG) (Q:VK),Inv X bA σ H s->RelV x v->Vals xs us->r x xs H Q ->
  wpAny (model X.prog X.w) X.A (call (.builtin id) (v::us)) (EP X bA σ Q) X.xe s
theorem Vals.one:∀{x:V} {us:AG},Vals [x] us->∃u,us=[u]/\RelV x u
 | _,_,.cons r .nil=>⟨_,rfl,r⟩
theorem Vals.zero:∀{us:AG},Vals [] us->us=[]
 | _,.nil=>rfl
theorem Vals.dropLast {xs:List V}{us:AG}(h:Vals xs us):Vals xs.dropLast us.dropLast:=by
 induction h with
 | nil=>exact .nil
 | cons r t e=>
  cases t with
  | nil=>exact .nil
  | cons q w=>exact .cons r e
theorem Vals.eraseIdx:∀{xs:List V} {us:AG} (i:Nat),Vals xs us->Vals (xs.eraseIdx i) (us.eraseIdx i)
 | _,_,_,.nil=>.nil
 | _,_,0,.cons _ t=>t
 | _,_,i+1,.cons r t=>.cons r (Vals.eraseIdx i t)
theorem Vals.rep (h:Vals xs us):∀k:Nat,Vals (List.replicate k xs).flatten (List.replicate k us).flatten
 | 0=>.nil
 | k+1=>by
  rw[Bl,Bl,Bu,Bu];exact Vals.append h (Vals.rep h k)
theorem cP9 (l:List α):l.eraseIdx (l.length-1)=l.dropLast:=by
 induction l with
 | nil=>rfl
 | cons a r w=>
  cases r with
  | nil=>rfl
  | cons b r=>
   have e:(a::b::r).length-1=((b::r).length-1)+1:=by
    have h1:(a::b::r).length=r.length+2:=rfl
    have j:(b::r).length=r.length+1:=rfl
    lia
   rw[e,List.eraseIdx_cons_succ,w]
   all_goals rfl
theorem bU4:∀(l:List α) (i:Nat),(l.eraseIdx i).length<=l.length
 | [],_=>Aa7 _
 | _::_,0=>Nat.le_succ _
 | _::r,i+1=>Nat.succ_le_succ (bU4 r i)
theorem bV3 (its:AG):∀(k:Nat) (acc:AG),
  List.foldl (λx1 x2=>x1++x2) acc.toArray (List.replicate k its.toArray)=(acc++(List.replicate k its).flatten).toArray
 | 0,acc=>by simp
 | k+1,acc=>by
  have e:acc.toArray++its.toArray=(acc++its).toArray:=by simp
  have w:(acc++its)++(List.replicate k its).flatten=acc++(List.replicate (k+1) its).flatten:=by
   rw[Bl,Bu,Ad7]
  rw[<- w,<- bV3 its k (acc++its),<- e,Bl,List.foldl_cons]
section
theorem Inv.lset {its its':AG}{n:Nat}{f:AJ->AJ}{t':Nat}(I:Inv X bA σ H s)(w:H l=some (.lst xs))
  (e:s.heap.get? l=some {cls:=.type "list",data:=.seq its.toArray n}) (j:f its.toArray=its'.toArray) (U:Vals ys its') (J:ys.length<=sizeLine) :
  Inv X bA σ (upd H l (.lst ys)) {s with heap:=s.heap.update l (Obj.mapSeq f),toks:=t'}:=by
 have q:=PySem.IsL.update e f
 rw[j]at q;refine I.write (x:=l) (e:=l) (by rw[w];exact trivial) (.inl rfl) (λM u r Y=>(Bz s.heap (Obj.mapSeq f) (Ne.symm r)).trans Y) ⟨_,q⟩ ?_
 exact⟨J,its',_,U,q⟩
theorem Inv.lnew (I:Inv X bA σ H s)(e:Vals ys its)(w:ys.length<=sizeLine) :
  Inv X bA σ (upd H s.heap.objs.size (.lst ys)) {s with heap:=s.heap.push {cls:=.type "list",data:=.seq its.toArray},toks:=t'}:=
 I.laid (λ_ _ q=>Aa6 _ q) (Aa7 _) ⟨w,its,0,e,Ac3 _ rfl⟩
theorem Inv.fresh (I:Inv X bA σ H s):H s.heap.objs.size=none:=I.hok.fresh (Aa7 _)
theorem Inv.lstM (I:Inv X bA σ H s)(w:H l=some (.lst xs)):xs.length<=sizeLine/\∃(its:AG) (n:Nat),Vals xs its/\xs.length=its.length/\s.heap.get? l=some {cls:=.type "list",data:=.seq its.toArray n}:=by
 obtain⟨z,its,n,r,e⟩:=I.hok l _ w;exact⟨z,its,n,r,r.length,e⟩
theorem dJ7 (h:n<=sizeLine):Builtin.List.listTooLong n=false:=by
 unfold Builtin.List.listTooLong;exact Aw (by lia)
end
section
def bA4:V->List V->Hp->VK->Prop:=λx vs H Q=>∃l xs y,x=.ref l/\vs=[y]/\H l=some (.lst xs)/\xs.length<sizeLine/\Q .non (upd H l (.lst (xs++[y])))
theorem K7:MtM X "list.append" bA4:=by
 intro J s σ H x vs v R Q I U Y h;obtain⟨l,xs,y,rfl,rfl,w,N,q⟩:=h;cases U;obtain⟨u,rfl,j⟩:=Y.one;obtain⟨z,its,n,r,M,e⟩:=I.lstM w;refine call_meets F.slot_list_append ⟨_,e,rfl⟩ F.entry_list_append (F.args_list_append_2 _ _) (PySem.list_append l its.toArray n u (by rw[Ab2];lia)) ⟨e,?_⟩
 refine⟨.non,_,I.lset (its':=its++[u]) w e (by simp) (r.append (.cons j .nil)) ?_,rfl,q⟩
 rw[Ab7,List.length_singleton]
 lia
def eI0:V->List V->Hp->VK->Prop:=λx vs H Q=>∃l xs y,x=.ref l/\vs=[]/\H l=some (.lst xs)/\xs[xs.length-1]? = some y/\Q y (upd H l (.lst xs.dropLast))
theorem cC7:MtM X "list.pop" eI0:=by
 intro P s σ H x vs v us Q I B R h;obtain⟨l,xs,y,rfl,rfl,Y,M,q⟩:=h;cases B;have w:=R.zero;subst w;obtain⟨z,its,n,r,U,e⟩:=I.lstM Y;obtain⟨u,J,N⟩:=r.get M;have j:its.toArray[its.toArray.size-1]? = some u:=by
  show its.toArray[its.length-1]? = some u
  rw[<- Array.getElem?_toList,<- U];exact J
 refine call_meets F.slot_list_pop ⟨_,e,rfl⟩ F.entry_list_pop (F.args_list_pop_1 _) (MeetsSeq.list_pop_last l its.toArray n u j (by rw[Ab2];lia)) ⟨e,?_⟩
 refine⟨y,_,I.lset (its':=its.dropLast) Y e ?_ r.dropLast ?_,N,q⟩
 .show its.toArray.eraseIdxIfInBounds (its.toArray.size-1)=its.dropLast.toArray
  rw[Ab2,List.eraseIdxIfInBounds_toArray,cP9]
 .rw[List.length_dropLast]
  lia
def dM1:V->List V->Hp->VK->Prop:=λx vs H Q=>∃l xs i k y,x=.ref l/\vs=[.int i]/\H l=some (.lst xs) /\ -(2^63)<=i/\i<2^63/\seqIndex? i xs.length=some k/\xs[k]? = some y/\Q y (upd H l (.lst (xs.eraseIdx k)))
theorem dF8:MtM X "list.pop" dM1:=by
 intro bA s σ H x vs v us Q I rx P h;obtain⟨l,xs,i,k,y,rfl,rfl,Y,h1,U,J,R,q⟩:=h;cases rx;obtain⟨u,rfl,B⟩:=P.one;obtain⟨t,rfl⟩:=B;obtain⟨z,its,n,r,M,e⟩:=I.lstM Y;obtain⟨w,N,j⟩:=r.get R;refine call_meets F.slot_list_pop ⟨_,e,rfl⟩ F.entry_list_pop (F.args_list_pop_2 _ _)
  (MeetsSeq.list_pop_at l its.toArray n i t k w (fitsIndex_both h1 U) (by rw[Ab2,<- M];exact J) (by rw[<- Array.getElem?_toList];exact N) (by rw[Ab2];lia)) ⟨e,?_⟩
 refine⟨y,_,I.lset (its':=its.eraseIdx k) Y e ?_ (r.eraseIdx k) ?_,j,q⟩
 .show its.toArray.eraseIdxIfInBounds k=(its.eraseIdx k).toArray
  rw[List.eraseIdxIfInBounds_toArray]
 .have:=bU4 xs k
  lia
def eR7:R2:=λx y H Q=>∃l k xs,x=.ref l/\y=.int k/\H l=some (.lst xs) /\ -(2^63)<=k/\k<2^63/\xs.length*k.toNat<=sizeLine /\
 ∀p,H p=none->Q (.ref p) (upd H p (.lst (List.replicate k.toNat xs).flatten))
theorem dX0 (xs:List α)(k:Nat):(List.replicate k xs).flatten.length=k*xs.length:=by
 induction k with
 | zero=>simp
 | succ k e=>rw[Bl,Bu,Ab7,e,Nat.succ_mul,Nat.add_comm]
theorem dS8:OpR X (binaryOp .Mult) eR7:=by
 intro bA s σ H x y v u Q I rx ry h;obtain⟨l,k,xs,rfl,rfl,hH,h1,h2,B,q⟩:=h;cases rx;obtain⟨t,rfl⟩:=ry;obtain⟨z,its,n,r,hl,e⟩:=I.lstM hH;have J:its.toArray.size*k.toNat<=sizeLine:=by rw[Ab2,<- hl];exact B
 have j:¬its.toArray.size*k.toNat>(2^63-1) / 8:=by
  have:(sizeLine:Nat)<=(2^63-1) / 8:=by decide
  lia
 have Y:¬(!Builtin.List.listFitsIndex k)=true:=by
  rw[fitsIndex_both h1 h2];exact Ah
 have w:¬Builtin.List.listTooLong (its.toArray.size*k.toNat)=true:=by
  rw[dJ7 J];exact Ah
 have M:List.foldl (λN R=>N++R) #[] (List.replicate (if its.toArray.isEmpty=true then 0 else k.toNat) its.toArray)=(List.replicate k.toNat its).flatten.toArray:=by
  have P:∀m:Nat,List.foldl (λN R=>N++R) #[] (List.replicate m its.toArray)=(List.replicate m its).flatten.toArray:=λm=>by
   have:=bV3 its m []
   rw[List.nil_append]at this;exact this
  rw[P];cases its with
  | nil=>simp
  | cons a r'=>rw[Ab (by simp)]
 refine wpAny_binaryOp_repeat_ref (T := "list") (U := "int") (by decide) ⟨_,e,rfl⟩ (λs'=>typeIs_int s' k t) noFill_list_mul F.fills_int_mul F.slot_int_rmul repeat_list F.slot_int_index.lookup
  (call_meets F.slot_int_rmul (typeIs_int s k t) F.entry_int_rmul (F.args_int_rmul_2 _ _) (int___rmul___int_list k t l its.toArray n)
   ⟨e,rfl,⟨_,e,rfl⟩,call_meets F.slot_list_mul ⟨_,e,rfl⟩ F.entry_list_mul (F.args_list_mul_2 _ _) (AutoListH.list___mul___list_int_3 l its.toArray n k t Y j w) ⟨e,?_⟩⟩)
 rw[M];exact⟨.ref _,_,I.lnew (t':=s.toks) (r.rep k.toNat) (by rw[dX0,Nat.mul_comm];exact B),rfl,q _ I.fresh⟩
end
end L2
namespace Att
open PySem PySem.W PySem.Calls PyProof.Rows
theorem bI9:∀(ns:AD) (vs:AG),WellAll P h vs (ns.map WData.int)->IntsAre vs ns:=by
 intro ns;induction ns with
 | nil=>
  intro vs w;rw[By]at w;cases w;exact .nil
 | cons n ns ih=>
  intro vs w;rw[Ac7]at w;cases w with
  | cons a b=>
   cases a
   exact .cons _ _ (ih _ b)
theorem dD2 {l:OpenLaw}{n:Nat}(R:l.most=some n){P:Params}{h:Heap}{args:List WData}{vals:AG}
  (e:l.row.toRowW.claim.pre args=true) (U:WellAll P h vals args) :
  ∃a vs ns,vals=[Value.ref a]/\args=[WData.list (ns.map WData.int)]/\h.get? a=some {cls:=.type "list",data:=.seq vs.toArray}/\IntsAre vs ns/\ns.length<=n:=by
 have X:WShape.hasAll [] args [.list .int]=true:=(pre_splitW e).1
 have J:l.pre.holds [] {args:=args}=true:=(pre_splitW e).2
 obtain⟨d,r,rfl,h1,M⟩:=hasAllW_cons X;obtain rfl:=hasAllW_nil M;obtain⟨xs,rfl,N⟩:=hasW_list h1;obtain⟨ns,rfl⟩:=items_int N;have j:ns.length<=n:=by
  unfold OpenLaw.pre at J;have s:(WTm.not (.lt (.lit (.int (n:Int))) (.len (.arg 0)))).holds [] {args:=[.list (ns.map .int)]}=true:=by
   have s:=(holds_andW J).1
   rw[R]at s;exact s
  have Y:=condW_of s (w_not (w_lt w_lit (w_len_list (w_arg rfl))))
  rw[Aa3]at Y;refine Nat.le_of_not_lt λq=>?_
  have Q:(n:Int)<((ns.length:Nat):Int):=by lia
  first
   | (rw[Bc Q]at Y;exact absurd Y (by decide))
   | (simp at Y;lia)
 cases U with
 | cons F B=>
  cases B
  cases F with
  | list ho w=>exact⟨_,_,ns,rfl,rfl,ho,bI9 ns _ w,j⟩
theorem dB5 (l:OpenLaw)(args:List WData):l.row.toRowW.claim.post args (.bool true) args=true:=
 postW_of (r:=l.row.toRowW) (X:=(true==true))
  (show WShape.has [] (.bool true) .bool=true by first | rfl | decide | simp[WShape.has,WShape.arms,WShape.armsAll])
  (show(WTm.eq .res (.lit (.bool true))).value [] {args:=args,res:=some (.bool true),after:=args}=some (.bool (true==true)) from w_eq_bool (w_res rfl) w_lit) rfl
theorem cJ5 {l:OpenLaw}{n:Nat}{q:Program}{loose:AH}{XP:(Str->Option Value)->Heap->Prop}{YP:World->Heap->Prop}{d:DefRec}
  (hn:l.most=some n) (J:d.params.defaults=[])
  (call:∀(w:World) (s₀ s₁:Shared) (mg mb:Str->Option Value) (fa:Addr) (o:Obj) (pm cd doc:Value) (a:Addr) (vs:AG) (ns:AD),
   Ground q loose [] XP w s₀ mg mb s₁.heap->YP w s₁.heap ->
   s₁.heap.get? fa=some o->o.data=.func (docDef d.name d.params d.body d.scope pm cd doc)->s₁.heap.CodeRec cd d.name->mg d.name=some (.ref fa) ->
   s₁.heap.get? a=some {cls:=.type "list",data:=.seq vs.toArray}->IntsAre vs ns->ns.length<=n->s₁.gens = #[] ->
   codeAny (model l.prog w) callerA (.call (.ref fa) ⟨[.ref a],[]⟩) (λr s'=>r=.ok (.ret (.bool true))/\OldK s₁.heap s'.heap/\s'.os=s₁.os/\AllBare s'.gens) s₁) :
  WalkO q loose XP YP l.row.toRowW d [] (λf vs=>PySem.call f vs):=by
 intro w s₀ s₁ mg mb G Y fa o pm cd doc P kV ho hd U Q M hg R B as X F hrd N hlo;obtain rfl:P=.none:=Dflts.none Q J;obtain rfl:kV=.none:=Dflts.noKw Q;obtain⟨a,vs,ns,rfl,rfl,s,e,j⟩:=dD2 hn X N;refine enter_call (codeAny_mono (call w s₀ s₁ mg mb fa o pm cd doc a vs ns G Y ho (fd_plain hd) U M s e j hg) λr s' hq=>?_)
 obtain⟨rfl,h2,h3,h4⟩:=hq;exact⟨.inl ⟨.bool true,.bool true,[],rfl,λ_=>rfl,.bool true,dB5 l _,λ_=>⟨List.Pairwise.nil,λ_ hm=>(nomatch hm)⟩⟩,h2,h3,h4⟩
section
def cS7 (h:Heap):Heap:={h with objs := #[]}
theorem aG5 (h:Heap)(b:Addr):(cS7 h).get? b=none:=by
 cases e:(cS7 h).get? b with
 | none=>rfl
 | some o=>exact absurd (Ab3 e) (Nat.not_lt_zero _)
theorem eI4 (n:h.Ns L m):Fr (cS7 h) L h m:=
 ⟨n,λb o e=>(by rw[aG5]at e;cases e),Co _⟩
end
end Att
namespace L2
open PySem PySem.Spec PyProof.Rows
theorem i9:∀{vs:AG} {ns:AD},IntsAre vs ns->Vals (ns.map V.int) vs
 | _,_,.nil=>.nil
 | _,_,.cons n t h=>.cons ⟨t,rfl⟩ (i9 h)
def eM3 (H:Hp):Prop:=∀b,H b=none\/∃o xs,H b=some (.frz o (.lst xs))
theorem dP1 {P:Program}{w:World}{K:Frag}{mg mb:Str->Option Value}{CX:CXT}{k:Nat}{fa a:Addr}{fd:FuncData}{x:Str}{sp:Sp}{s₁:Shared}{vs:AG}{ns:AD}
  (KX:K.In s₁.heap) (hns:s₁.heap.Ns mainGlobals mg) (Y:s₁.heap.Ns builtinsNs mb) (hbb:∀x:Str,x≠"__name__" -> mb x=bootBuiltins x) (B:s₁.heap.NoLimit) (hg:s₁.gens = #[])
  (ha:s₁.heap.get? a=some {cls:=.type "list",data:=.seq vs.toArray}) (hi:IntsAre vs ns) (hl:ns.length<=sizeLine) (hr:Room k callerA)
  (F:∀base:Heap,K.In base->base.Ns mainGlobals mg->FnOk P w K mg base CX k fa fd [x] sp) (J:∀(s:Shared) (u:Value),BindsTo s fd ⟨[u],[]⟩ [(x,u)])
  (hsp:∀H:Hp,eM3 H->SqL K H a (ns.map V.int)->sp [.ref a] H (λv _=>v=.bl true) λ_ _ _=>False)
  (hCX:∀H e s',CX [] H s₁ (λ_ _ _=>False) e s'->False) :
  codeAny (model P w) callerA (.call (.ref fa) ⟨[.ref a],[]⟩) (λr s'=>r=.ok (.ret (.bool true))/\OldK s₁.heap s'.heap/\s'.os=s₁.os/\AllBare s'.gens) s₁:=by
 have rv:=i9 hi
 have Y7:=hi.length
 have U:∀H:Hp,eM3 H->SqL K H a (ns.map V.int)->HOk P w H s₁.heap->(∀b,H b≠none->b=a)->(H a≠none->K.lookup a=none) ->
   codeAny (model P w) callerA (.call (.ref fa) ⟨[.ref a],[]⟩) (λr s'=>r=.ok (.ret (.bool true))/\OldK s₁.heap s'.heap/\s'.os=s₁.os/\AllBare s'.gens) s₁:=by
  intro H hO hS hok hA hK;have j:∀{b:Addr} {o:Obj},s₁.heap.get? b=some o->H b=none->(cA2 s₁.heap H).get? b=some o:=λe n=>dL0 e n
  have noA:∀{b:Addr} {o:Obj} {R:Array DictEntry} {N:Nat},s₁.heap.get? b=some o->o.data=.dict R N->H b=none:=λ{b o R N} e d=>by
   cases q:H b with
   | none=>rfl
   | some u=>
    have e':b=a:=hA b (by rw[q];simp)
    subst e';rw[ha]at e;cases e;have d':Data.seq vs.toArray _=Data.dict R N:=d;cases d'
  have X:∀{b:Addr} {m:Str->Option Value},s₁.heap.Ns b m->(cA2 s₁.heap H).Ns b m:=λ{b m} ⟨o,R,N,e,d,r⟩=>⟨o,R,N,j e (noA e d),d,r⟩
  have Q:K.In (cA2 s₁.heap H):=λb o e=>j (KX b o e) (by
   cases q:H b with
   | none=>rfl
   | some u=>
    have e':b=a:=hA b (by rw[q];simp)
    subst e';rw[hK (by rw[q];simp)]at e;cases e)
  have hM:Mod K mg (cA2 s₁.heap H):=⟨Q,X hns,⟨mb,X Y,hbb⟩,let ⟨mc,h1,h2⟩:=B;⟨mc,X h1,h2⟩⟩
  have e0:Env0 P w K mg (cA2 s₁.heap H) callerA [] s₁ H:=⟨rfl,hM,λb o e=>dV6 e,Nat.le_of_eq (dC8 _ _),trivial,λb Y=>absurd (show b∈([]:AL) from Y) (by simp),hok,.of_eq hg⟩
  refine codeAny_mono ((F _ Q (X hns)).run callerA [] s₁ H ⟨[.ref a],[]⟩ [.ref a] [.ref a] _ _ hr e0 (J s₁ (.ref a)) (.cons rfl .nil) (hsp H hO hS)) λr s' h=>?_
  cases r with
  | error e=>exact(hCX H e s' h).elim
  | ok fl=>
   cases fl with
   | next=>exact False.elim h
   | brk=>exact False.elim h
   | cont=>exact False.elim h
   | ret u=>
    obtain⟨v,H',os,M,un,hok',r',q⟩:=h;have q':v=.bl true:=q;subst q';obtain rfl:u=Value.bool true:=r';refine⟨rfl,OldK.of_keep λb o e=>?_,os,M⟩
    cases q:H b with
    | none=>exact un.keep b o e q (by intro z;exact absurd (show b∈([]:AL) from z) (by simp)) (by simp)
    | some u=>
     rcases hO b with z | ⟨ob,xs,z⟩
     .rw[q]at z;cases z
     .have z2:=un.frzs b ob _ z
      obtain⟨e1,_⟩:=hok b _ z;obtain⟨e2,_⟩:=hok' b _ z2;rw[e]at e1;cases e1;exact e2
 cases hk:K.lookup a with
 | some o=>
  have e:=KX a o hk
  rw[ha]at e;cases e;refine U (λ_=>none) (λ_=>.inl rfl) (.inr ⟨_,vs.toArray,_,hk,rfl,rfl,rfl,by rw[Ab2,Y7];exact hl,by simpa using rv⟩) (λb u z=>by have z':(none:Option HO)=some u:=z;cases z') (λb z=>absurd rfl z) λz=>absurd rfl z
 | none=>
  refine U (λb=>if b=a then some (.frz {cls:=.type "list",data:=.seq vs.toArray} (.lst (ns.map V.int))) else none) (λb=>?_) (.inl (.inr ⟨{cls:=.type "list",data:=.seq vs.toArray},Ac rfl⟩)) (λb u z=>?_) (λb z=>?_) λ_=>hk
  .by_cases Y:b=a
   .exact .inr ⟨_,_,Ac Y⟩
   .exact .inl (Ab Y)
  .by_cases Y:b=a
   .have z':=(Ac Y).symm.trans z
    cases z'
    subst Y;exact⟨ha,by rw[Aa3];exact hl,vs,_,rv,ha⟩
   .have z':=(Ab Y).symm.trans z
    cases z'
  .by_cases Y:b=a
   .exact Y
   .exact absurd (Ab Y) z
abbrev KOf {K:Frag}{h:Heap}(_:K.In h):Frag:=K
theorem dV0 {l:PySem.W.OpenLaw}{n k:Nat}{q:Program}{loose:AH}{XP:(Str->Option Value)->Heap->Prop}{YP:World->Heap->Prop}{d:DefRec}{K:Params->Frag}{CX:World->CXT}{sp:World->Sp}{x:Str}
  (hn:l.most=some n) (N:n<=sizeLine) (J:d.params.defaults=[]) (hr:Room k callerA)
  (hY:∀(w:World) (h:Heap),YP w h->(K w.params).In h)
  (F:∀(w:World) (mg:Str->Option Value) (fa:Addr) (h:Heap),(K w.params).In h->h.Ns mainGlobals mg->mg d.name=some (.ref fa) ->
   ∃fd:FuncData,(∀(s:Shared) (u:Value),BindsTo s fd ⟨[u],[]⟩ [(x,u)]) /\
    ∀base:Heap,(K w.params).In base->base.Ns mainGlobals mg->FnOk l.prog w (K w.params) mg base (CX w) k fa fd [x] (sp w))
  (R:∀(w:World) (H:Hp) (a:Addr) (ns:AD),ns.length<=n->eM3 H->SqL (K w.params) H a (ns.map V.int)->sp w [.ref a] H (λv _=>v=.bl true) λ_ _ _=>False)
  (U:∀(w:World) (H:Hp) (s:Shared) (e:Value) (s':Shared),CX w [] H s (λ_ _ _=>False) e s'->False) :
  PySem.W.WalkO q loose XP YP l.row.toRowW d [] (λf vs=>PySem.call f vs):=by
 refine Att.cJ5 hn J λw s₀ s₁ mg mb fa o pm cd B a vs ns G Y ho hd hcd M X j r hg=>?_
 have Q:=hY w _ Y
 obtain⟨fd,hb,P⟩:=F w mg fa _ Q G.T.g M;exact dP1 Q G.T.g G.T.b G.T.builtins G.T.nolimit hg X j (Bd r N) hr P hb (λH hO hS=>R w H a ns r hO hS) λH e s'=>U w H s₁ e s'
def U8 (s:Stmt)(j:Nat):Stmt:=match s with
 | .ClassDef _ _ _ body _ _ _ _ _ _ _=>body.getD j (.Pass ⟨0,0,0,0⟩)
 | _=>.Pass ⟨0,0,0,0⟩
def aA5 (s:Stmt):Arguments:=match s with
 | .FunctionDef _ a _ _ _ _ _ _ _ _=>a
 | _=>{posonlyargs:=[],args:=[],vararg:=none,kwonlyargs:=[],kw_defaults:=[],kwarg:=none,defaults:=[]}
def Z6 (s:Stmt):List Stmt:=match s with
 | .FunctionDef _ _ b _ _ _ _ _ _ _=>b
 | _=>[]
def A9 (s:Stmt):Scope:=match s with
 | .FunctionDef _ _ _ _ _ _ sc _ _ _=>sc
 | _=>{kind:=.function,names:=[],isGenerator:=false,isCoroutine:=false}
abbrev CX0:CXT:=λ_ _ _ _ _ _=>False
abbrev E0:XK:=λ_ _ _=>False
theorem aI4:w6 CX0 X E0:=λ_ _ _ _ _ _ _ h=>h.elim
structure Fun (K:Frag)(x qual:Str)(st:Stmt)(f:Addr)(fd:FuncData):Prop where
 ex:∃(oc:Value) (od:AK) (kV doc pm:Value) (an:AK) (cdv ct:Value) (osl:Array (Option Value)),
  fd=PySem.W.fnOf x qual (aA5 st) (Z6 st) (A9 st) .none kV doc pm an cdv ct/\K.lookup f=some ⟨oc,od,.func fd,osl⟩/\PySem.W.codeIn K cdv qual=true
 kp:PySem.W.keepIn K (.ref f)=true
section
variable {P:Program}{w:World}{K:Frag}{mg:Str->Option Value}{base:Heap}
theorem Fun.ok {x qual:Str}{st:Stmt}{f:Addr}{fd:FuncData}{N ps:AH}{k:Nat}{sp:Sp}(F:Fun K x qual st f fd)(S:B8 N ps (A9 st))(Y:∀vs H Q E,sp vs H Q E->vs.length=ps.length)
  (e:∀(cdv:Value) (A:Around) (outer:List Env) (s:Shared) (H:Hp) (vs:List V) (Q:VK) (E:XK),Room k (A.deeper (envOfC qual (A9 st) s.heap.objs.size f cdv))->sp vs H Q E ->
   ∃t,PSs (bA5 CX0 P w K mg base N qual (A9 st) f cdv A outer s H E).nox (Z6 st) t/\t {nx:=λ_ H'=>Q .non H',rt:=Q} (Y6 N vs) H):FnOk P w K mg base CX0 (k+1) f fd ps sp:=by
 obtain⟨R,B,kV,X,pm,an,cdv,M,J,rfl,lk,r⟩:=F.ex;refine eD4 lk r S Y λA outer s H vs Q E U j=>?_
 obtain⟨t,h,q⟩:=e cdv A outer s H vs Q E U j;exact⟨t,h.nox,q⟩
theorem Fun.binds {x qual:Str}{st:Stmt}{f:Addr}{fd:FuncData}{ps:AH}(F:Fun K x qual st f fd)
  (h:∀(kV doc pm:Value) (an:AK) (cdv ct:Value) (us:AG),us.length=ps.length->bindArgs (PySem.W.fnOf x qual (aA5 st) (Z6 st) (A9 st) .none kV doc pm an cdv ct) ⟨us,[]⟩=pure (ps.zip us)):Binds K fd ps []:=by
 obtain⟨j,s,kV,doc,pm,an,cdv,ct,r,rfl,lk,e⟩:=F.ex;exact .all (h kV doc pm an cdv ct)
theorem E3 {x qual:Str}{st:Stmt}{f:Addr}{oc:Value}{od an:AK}{osl:Array (Option Value)}{kV doc pm cdv ct:Value}(l:K.lookup f=some ⟨oc,od,.func (PySem.W.fnOf x qual (aA5 st) (Z6 st) (A9 st) .none kV doc pm an cdv ct),osl⟩)
  (c:PySem.W.codeIn K cdv qual=true) (k:PySem.W.keepIn K (.ref f)=true):Fun K x qual st f (PySem.W.fnOf x qual (aA5 st) (Z6 st) (A9 st) .none kV doc pm an cdv ct):=⟨⟨oc,od,kV,doc,pm,an,cdv,ct,osl,rfl,l,c⟩,k⟩
end
theorem eS9 (e:Room k A):A.units+1<cLine:=Nat.lt_of_le_of_lt (Nat.add_le_add_left (by decide:1<=64) _) e.units
section
theorem pv (i:Nat)(w:X.N[i]? = some x:=by rfl)(j:Vis X.env.scope x:=by first | exact Or.inl rfl | exact Or.inr (Or.inl rfl) | exact Or.inr (Or.inr rfl))(r:(x==("__debug__" : Str))=false:=by decide)
  (e:(x==("__classdict__" : Str))=false:=by decide):PE X (.Name x pos) (C7 i):=eN5 w j r e
end
def Same (H H':Hp):Prop:=∀b o,H b=some o->H' b=some o
section
theorem cI7 (I:Nat->Shared->Prop)
  (j:∀n s,I n s->wpAny (model prog w) A (pyNext it) (λr s₁=>match r with
   | none=>R (.ok .next) s₁
   | some v=>wpAny (model prog w) A (letOwnedTupleGo target it v) (λ_ s₁'=>wpAny (model prog w) A (assign target env v) (λ_ s₂ =>
     wpAny (model prog w) A (forIn ifs true λc r=>if r=true then do let ok <- isTrue c env (eval c env);pure (ForInStep.yield ok) else pure (ForInStep.yield r)) (λok s₃ =>
      if ok=true then wpAny (model prog w) A (eval elt env) (λx s₄ =>
       wpAny (model prog w) A (call (.builtin "list.append") [acc,x]) (λ_ s₅=>∃m,m<n/\I m s₅) (λ_ _=>False) s₄) (λ_ _=>False) s₃
      else ∃m,m<n/\I m s₃) (λ_ _=>False) s₂) (λ_ _=>False) s₁') (λ_ _=>False) s₁) (λ_ _=>False) s)
  (n:Nat) (h:I n s) :
  codeAny (model prog w) A (.compLoop (.ListComp elt [⟨target,iter,ifs,0⟩] scope pos) 0 it acc env) R s:=by
 refine codeAny_loop rfl I (λn s J=>?_) n h
 show wpAny _ A ((compTurn (.ListComp elt [⟨target,iter,ifs,0⟩] scope pos) 0 it acc env).onRaise (λx=>do noteFrame x env;theTreesLotGoes x)) _ _ s
 refine wpAny_noted ?_;rw[compTurn_list];refine Aa (wpAny_standAt (Aa (wpAny_mono (j n s J) (λr s₁ X=>?_) λ_ _ e=>e.elim)))
 cases r with
 | none=>exact Ae X
 | some v=>
  refine Aa (wpAny_mono X (λ_ s₁' Y=>?_) λ_ _ e=>e.elim)
  refine Aa (wpAny_mono Y (λ_ s₂ M=>Aa (wpAny_mono M (λok s₃ U=>?_) λ_ _ e=>e.elim)) λ_ _ e=>e.elim)
  cases ok with
  | false=>exact Ae ⟨rfl,U⟩
  | true=>
   exact Aa (Aa (wpAny_mono U (λx s₄ N=>Aa (wpAny_mono N (λ_ s₅ Q=>Ae (Ae ⟨rfl,Q⟩)) λ_ _ e=>e.elim)) λ_ _ e=>e.elim))
end
section
def cxC (X:Cx)(N':AH)(scope:Scope)(cl:List (Str×Addr))(C:Addr)(ex:AL)(s:Shared)(H:Hp):Cx:=
 {X with N:=N',s₀:=s,H₀:=H,env:=compEnvC scope cl C X.env,outer:=X.stack,ex:=ex,fn:=λ_=>false,xe:=λ_ _=>False}
structure PIfs (X:Cx)(ifs:AM)(t:TT):Prop where
 mk ::
 run :
  ∀(bA:Eb) (s:Shared) (σ:St) (H:Hp) (Q:Bool->Hp->Prop),Inv X bA σ H s->t σ H Q ->
   wpAny (model X.prog X.w) X.A (forIn ifs true λc r=>if r=true then do let ok <- isTrue c X.env (eval c X.env);pure (ForInStep.yield ok) else pure (ForInStep.yield r)) (TP X bA σ Q) X.xe s
instance {X:Cx} {ifs:AM} {t:TT}:CoeFun (PIfs X ifs t) λ_=>
 (∀(bA:Eb) (s:Shared) (σ:St) (H:Hp) (Q:Bool->Hp->Prop),Inv X bA σ H s->t σ H Q ->
  wpAny (model X.prog X.w) X.A (forIn ifs true λc r=>if r=true then do let ok <- isTrue c X.env (eval c X.env);pure (ForInStep.yield ok) else pure (ForInStep.yield r)) (TP X bA σ Q) X.xe s):=⟨PIfs.run⟩
def cF6:TT:=λ_ H Q=>Q true H
theorem i3:PIfs X [] cF6:=⟨λe s σ H Q I h=>by
 show wpAny _ _ (pure true) _ _ _
 exact Ae ⟨H,I,h⟩⟩
theorem aY4 (w:PT X c t):PIfs X [c] t:=⟨λe s σ H Q I h=>by
 rw[List.forIn_cons,Ac rfl];refine Aa (Aa (thn (w e s σ H Q I h) λb r q=>Ae ?_))
 dsimp only
 rw[List.forIn_nil];exact Ae q⟩
def stC (n:Nat)(is:AC)(σ:St):St:=List.replicate n none++is.map λi=>(σ[i]?).getD none
def dK5 (wi:TI)(n:Nat)(is:AC)(g:TG)(tt:TT)(te:TE):TE:=λσ H Q=>wi σ H λJ H1=>
 ∃W:Nat->Nat->List V->Hp->Prop,(∃m,W 0 m [] H1)/\∀i m ys H,W i m ys H->ys.length<sizeLine /\
  ((J.stop i H/\∀D,H D=none->Q (.ref D) (upd H D (.lst ys))) \/
   (J.go i H/\∀x H',J.yld i H x H'->g x (stC n is σ) H' λσ2 H2=>tt σ2 H2 λb H3=>
    if b=true then te σ2 H3 (λy H4=>∃m',m'<m/\W (i+1) m' (ys++[y]) H4) else ∃m',m'<m/\W (i+1) m' ys H3))
structure CScope (X:Cx)(scope:Scope)(cl:List (Str×Addr))(T:AH)(is:AC)(N':AH):Prop where
 clos:closureFor scope X.env=pure cl
 cell:∀y∈scope.names,y.2≠.cell
 kind:scope.kind=.function
 names:∀y∈scope.names,y.2=.local->scope.names.lookup y.1=some .local
 cap:∀x c,cl.lookup x=some c->X.env.cells.lookup x=some c
 has:∀x,((relabel scope X.env).names.lookup x=some .cell\/(relabel scope X.env).names.lookup x=some .free)->∃c,cl.lookup x=some c
 N:N'=T++is.map λ(i:Nat)=>((X.N[i]?).getD Str.empty:Str)
 lt:∀i∈is,i<X.N.length
 capt:∀i∈is,∀x,X.N[i]? = some x->((relabel scope X.env).names.lookup x=some .cell\/(relabel scope X.env).names.lookup x=some .free)/\(X.env.kindOf x=some .cell\/X.env.kindOf x=some .free)
theorem eI3 (S:CScope X scope cl T is N')(I:Inv X bA σ H s)
  (r:∀b∈fp,bQ5 X bA H b) (j:∀b∈fp,b<s.heap.objs.size) (Y:s.heap.objs.size<=C):(cxC X N' scope cl C fp s H).Ok where
 mod:=I.ok.mod
 kind:=S.kind
 glob:=I.ok.glob
 blt:=I.ok.blt
 above:=Y
 inj:=λx y c h1 U=>I.ok.inj x y c (S.cap x c h1) (S.cap y c U)
 has:=S.has
 cab:=λx c h=>by cases h
 hd:=I.ok.hd
 frames:=I.ok.frames
 stk:=.inl rfl
 exf:=λb w=>⟨Ab9 (Ab8 (j b w) Y),λx c e=>(r b w).2.2.2.2.1 x c (S.cap x c e)⟩
 bs:=λb o e=>I.bs b o e
 bsz:=Bd I.ok.bsz I.sz
 noex:=λb o e w=>by
  rcases (r b w).2.2.2.1 with z | z
  .exact I.ok.noex b o e z
  .exact absurd (Ab8 (Ab3 e) (Bd I.ok.bsz z)) (Ad9 _)
 exfs:=λb w z=>(Aa1.mp (I.stkSub b z)).elim (r b w).2.1 (r b w).2.2.1
 funs:=I.stack
 frf:=I.stkFree
def bT0 (n:Nat)(g:TG):Prop:=∀v (σ:St) H Q,n<=σ.length->g v σ H Q->g v σ H λσ' H'=>Q σ' H'/\σ'.length=σ.length/\∀i,n<=i->σ'[i]? = σ[i]?
def cD0 (n:Nat)(g:TGs):Prop:=∀vs (σ:St) H Q,n<=σ.length->g vs σ H Q->g vs σ H λσ' H'=>Q σ' H'/\σ'.length=σ.length/\∀i,n<=i->σ'[i]? = σ[i]?
theorem T3 (h:i<n):bT0 n (M8 i):=λv σ H Q w q=>
 ⟨q,Dj,λj e=>Ad0 (by lia)⟩
theorem eI9:cD0 n dC0:=λvs σ H Q e q=>⟨q.1,q.2,rfl,λ_ _=>rfl⟩
theorem cZ1 (mono:∀v σ H Q Q',(∀σ' H',Q σ' H'->Q' σ' H')->t v σ H Q->t v σ H Q')(w:∀v σ H Q Q',(∀σ' H',Q σ' H'->Q' σ' H')->u v σ H Q->u v σ H Q')(h1:bT0 n t)(X:cD0 n u):cD0 n (bQ7 t u):=by
 rintro vs σ H Q U ⟨v,r,e,q⟩;refine⟨v,r,e,mono _ _ _ _ _ ?_ (h1 v σ H _ U q)⟩;rintro σ' H' ⟨N,F,J⟩;refine w _ _ _ _ _ ?_ (X r σ' H' _ (by lia) N)
 rintro R Y ⟨s,M,j⟩;exact⟨s,by lia,λi hi=>(j i hi).trans (J i hi)⟩
theorem eM9 {K:Frag}{n k:Nat}{t:TGs}(h:cD0 n t):bT0 n (dY2 K k t):=by
 rintro v σ H Q w ⟨a,xs,e,j,r,q⟩;exact⟨a,xs,e,j,r,h xs σ H Q w q⟩
abbrev aU2 (its:AG)(n:Nat):Obj:={cls:=.type "list",data:=.seq its.toArray n}
theorem dL1 (S:CScope X scope cl T is N')(I:Inv X bA σ H s)
  (hf:∀b∈fp,bQ5 X bA H b) (hfl:∀b∈fp,b<s.heap.objs.size) (Q:s.heap.objs.size=D) (P:D<C) (hns:h₁.Ns C m) (j:∀b o,s.heap.get? b=some o->h₁.get? b=some o) (M:h₁.get? D=some (aU2 its e)) :
  Inv (cxC X N' scope cl C fp s H) (bA++[(D,aU2 its e)]) (stC T.length is σ) H {s with heap:=h₁,toks:=tk}:=by
 have J:s.heap.objs.size<=C:=by rw[Q];exact Cv P
 have ok:=eI3 (C:=C) S I hf hfl J
 have lt:∀p∈X.pn++bA,p.1<D:=λp hp=>by rw[<- Q];exact Ab3 (I.pin p hp).1
 have stk:∀b∈frs X.stack,b<D:=λb hb=>by
  obtain⟨_,o,ho,_⟩:=I.stack.mem hb;rw[<- Q];exact Ab3 ho
 refine⟨ok,rfl,I.bare,Un.kept j,⟨m,hns,λi x v Y w e3=>?_⟩,λx c h=>?_,?_,λx c h=>I.freeC x c (S.cap x c h),λp hp=>?_,I.hok.kept j,?_⟩
 .have Y:N'[i]? = some x:=Y
  unfold stC at w;by_cases hi:i<T.length
  .rw[Ca (by simpa using hi),Ck,Ac hi]at w
   cases w
  .rw[Bw (by simpa using hi),Cw,Aa9]at w
   rw[S.N,Bw (by lia),Aa9]at Y
   cases B:is[i-T.length]? with
   | none=>rw[B]at w;cases w
   | some k=>
    rw[B]at Y w;have hk:k∈is:=Bb B;have hlt:=S.lt k hk;have eN:X.N[k]? = some x:=by
     simp only[Option.map_some,Option.some.injEq]at Y;rw[Aa2 hlt]at Y ⊢;simpa using Y
    have es:σ[k]? = some (some v):=by
     simp only[Option.map_some,Option.some.injEq]at w;cases q:σ[k]? with
     | none=>rw[q]at w;cases w
     | some y=>rw[q]at w;exact congrArg some w
    obtain⟨c1,c2⟩:=S.capt k hk x eN;obtain⟨m',hn',hl'⟩:=I.loc;obtain⟨u,r,l⟩:=hl' k x v eN es (.inr c2);refine⟨u,r,.inr ⟨c1,?_⟩⟩;rcases l with⟨k1,_⟩ | ⟨_,c,hc,U⟩
    .rcases c2 with c2 | c2 <;> rw[k1]at c2 <;> cases c2
    .obtain⟨F,R⟩:=S.has x c1
     have:F=c:=Ab4 ((S.cap x F R).symm.trans hc)
     subst this;exact⟨F,R,U.keeps j⟩
 .obtain⟨v,q⟩:=I.cell x c (S.cap x c h);exact⟨v,q.keeps j⟩
 .exact I.hok.fresh J
 .have hp:p∈X.pn++(bA++[(D,aU2 its e)]):=hp
  rw[<- Ad7]at hp;rcases Aa0.mp hp with hp | hp
  .obtain⟨q1,q2,q3,q4,q5⟩:=I.pin p hp
   have:=lt p hp
   exact⟨j _ _ q1,q2,Ab9 (Nat.lt_trans this P),λz=>(Aa1.mp (I.stkSub p.1 z)).elim q3 q4,q5⟩
  .have e:p=(D,aU2 its e):=by simpa using hp
   subst e;exact⟨M,I.hok.fresh (by rw[Q];exact Aa7 _),Ab9 P,λz=>Ad9 _ (stk D z),λv z=>by cases z⟩
 .show(stC T.length is σ).length=N'.length
  rw[S.N];unfold stC
  simp
def dZ3 (X:Cx)(bA:Eb)(σ:St)(D C:Addr)(H4:Hp)(s4:Shared):Prop:=
 (∃m,s4.heap.Ns C m)/\(∀h',Heap.SameBut C s4.heap h'->Inv X bA σ H4 {s4 with heap:=h'})/\H4 C=none/\C≠X.env.locals/\X.s₀.heap.objs.size<=C/\(∀x c,X.env.cells.lookup x=some c->c≠C)/\∀p∈X.pn++bA,p.1≠C
theorem dC1 (hc:X.calm=true)(S:CScope X scope cl T is N')(hi:PI X tg iter wi)(hg:bT0 T.length g)
  (Y:∀C ex s H,PG (cxC X N' scope cl C ex s H) tg g/\PIfs (cxC X N' scope cl C ex s H) ifs tt/\PE (cxC X N' scope cl C ex s H) elt te)
  (hs:∀x,foldedSetIterable iter X.env x=pure x) (I:Inv X bA σ H s) (h:dK5 wi T.length is g tt te σ H Q)
  (fin:∀(D C:Addr) (H4:Hp) (s4:Shared),dZ3 X bA σ D C H4 s4->Q (.ref D) H4->compPost (model X.prog X.w) X.A X.xe use Qc (.ref D) C (.ok .next) s4) :
  wpAny (model X.prog X.w) X.A (comprehension (.ListComp elt [⟨tg,iter,ifs,0⟩] scope pos) scope X.env pos2 (newList []) false (eval iter X.env) use) Qc X.xe s:=by
 refine wpAny_comprehension_free (use:=use) rfl hs S.clos S.kind S.names (thn (hi bA s σ H _ I h) λv s1 h1=>thn h1 λitv M h2=>?_)
 obtain⟨it,U,tn,J,R,e,I2,Tn,st2,f2,W,⟨m0,w0⟩,turn⟩:=h2;subst e;refine Cj (wpAny_newFunctionEnv S.cell (by intro y hy;simp at hy) (λh₁ hns₁ F=>?_) S.kind)
 dsimp only at hns₁ F ⊢
 generalize hH2:M.heap.push {cls:=.type "list",dict:=none,data:=.seq ([]:AG).toArray}=G2 at hns₁ F ⊢;have eC:G2.objs.size=M.heap.objs.size+1:=by rw[<- hH2,Cf]
 generalize hC:G2.objs.size=C at *;generalize hD:M.heap.objs.size=D at *;have N:D<C:=by rw[eC];exact Nat.lt_succ_self D
 have bC:∀{b:Addr},b<D->b≠C:=λY=>Ab9 (Nat.lt_trans Y N)
 have below:∀b o,M.heap.get? b=some o->b<D:=λb o e=>by rw[<- hD];exact Ab3 e
 have old:∀b o,M.heap.get? b=some o->h₁.get? b=some o:=λb o e=>F.extBut b o (bC (below b o e)) (Aa6 _ (hH2▸Aa6 _ e))
 have hacc:h₁.get? D=some (aU2 [] 0):=F.extBut _ _ (Ab9 N) (Aa6 _ (hH2▸(by rw[<- hD];exact Ac3 _ rfl)))
 have P:∀b∈U,b<D:=λb Y=>by
  obtain⟨o,e,_⟩:=Tn.obj _ _ st2 b Y;exact below b o e
 have lt:∀p∈X.pn++bA,p.1<D:=λp hp=>below _ _ (I2.pin p hp).1
 have stk:∀b∈frs X.stack,b<D:=λb Y=>by
  obtain⟨_,o,ho,_⟩:=I2.stack.mem Y;exact below b o ho
 have cel:∀x c,cl.lookup x=some c->c<D:=λx c hx=>by
  obtain⟨v,q⟩:=I2.cell x c (S.cap x c hx);rw[<- hD];exact q.lt
 have H2D:R D=none:=I2.hok.fresh (by rw[hD];exact Aa7 _)
 obtain⟨pgx,pix,pex⟩:=Y C U M R;have stat:∀{e:Nat} {its:AG} {H':Hp},(∀b∈U,H' b=none)->∀b∈U,bQ5 (cxC X N' scope cl C U M R) (bA++[(D,aU2 its e)]) H' b:=λ{e its H'} hn b Y=>by
  obtain⟨f0,f1,f3,f4,f5,f6⟩:=f2 b Y
  have:=P b Y
  refine⟨hn b Y,bC (P b Y),λz=>(Aa1.mp (I2.stkSub b z)).elim f1 f3,.inl Y,λx c z=>f5 x c (S.cap x c z),λp hp=>?_⟩
  have hp:p∈X.pn++(bA++[(D,aU2 its e)]):=hp
  rw[<- Ad7]at hp;rcases Aa0.mp hp with hp | hp
  .exact f6 p hp
  .have e:p=(D,aU2 its e):=by simpa using hp
   subst e;exact(Ab9 (P b Y)).symm
 have loop:codeAny (model X.prog X.w) X.A (.compLoop (.ListComp elt [⟨tg,iter,ifs,0⟩] scope pos) 0 (.ref it) (.ref D) (compEnvC scope cl C X.env)) (compPost (model X.prog X.w) X.A X.xe use Qc (.ref D) C) {M with heap:=h₁,toks:=M.toks+([]:List (Str×Value)).length}:=by
  refine cI7 (λn s'=>∃i ys its e B,Inv (cxC X N' scope cl C U M R) (bA++[(D,aU2 its e)]) (stC T.length is σ) B s'/\tn i s'.heap/\(∀b∈U,B b=none)/\Vals ys its/\W i n ys B) ?_ m0
   ⟨0,[],[],0,R,dL1 S I2 f2 (by rw[hD];exact P) hD N hns₁ old hacc,Tn.keep _ _ _ st2 λb _ o q=>old b o q,λb Y=>(f2 b Y).1,.nil,w0⟩
  rintro n s3 ⟨i,ys,its,e,B,I3,st3,fr3,rv,w3⟩;obtain⟨hsz,hh⟩:=turn i n ys B w3;rcases hh with⟨stop,qn⟩ | ⟨go,step⟩
  .refine thn (Tn.done (cxC X N' scope cl C U M R) rfl rfl rfl hc i _ s3 _ B _ I3 (stat fr3) st3 stop) λr s4 ⟨hr,I4⟩=>?_
   subst hr;obtain⟨m4,hn4,_⟩:=I4.loc;obtain⟨pd,H3D,_⟩:=I4.pin (D,aU2 its e) (by simp)
   have H3C:B C=none:=I4.free
   refine fin D C (upd B D (.lst ys)) s4 ⟨⟨m4,hn4⟩,λh' sb=>?_,by rw[B6 (Nat.ne_of_gt N)];exact H3C,λz=>Ad9 _ (Nat.lt_trans N (by rw[z];have:=I2.lt;rw[hD]at this;exact this)),Bd I2.sz (by rw[hD];exact Cv N),λx c e=>by
    obtain⟨v,q⟩:=I2.cell x c e;exact bC (by rw[<- hD];exact q.lt),λp hp=>bC (lt p hp)⟩ (qn D H3D)
   have kC:∀b o,b≠C->s4.heap.get? b=some o->h'.get? b=some o:=λb o Y q=>(sb.2 b Y).trans q
   have u:=I4.base
   have u:Un (frs X.stack) U R B M.heap s4.heap:=u
   have u2:Un (frs X.stack) U R (upd B D (.lst ys)) M.heap h':=by
    refine⟨λb o q n Y hx=>kC b o (bC (below b o q)) (u.keep b o q n Y hx),λb o q n Y hx=>?_,λb o q n hx=>?_,λb o q hx=>?_,λb xs q=>?_,λb o xs q=>?_,λb ps q=>?_⟩
    .obtain⟨sl,q1⟩:=u.slot b o q n Y hx;exact⟨sl,kC b _ (bC (below b o q)) q1⟩
    .rw[B6 (Ab9 (below b o q))];exact u.free b o q n hx
    .obtain⟨o',q1⟩:=u.there b o q hx;exact⟨o',kC b _ (bC (below b o q)) q1⟩
    .rw[B6 (G7 q H2D)];exact u.tups b xs q
    .rw[B6 (G7 q H2D)];exact u.frzs b o xs q
    .obtain⟨more,q1⟩:=u.tbls b ps q;exact⟨more,by rw[B6 (G7 q H2D)];exact q1⟩
   have hok:HOk X.prog X.w (upd B D (.lst ys)) h':=λb o q=>by
    by_cases Y:b=D
    .subst Y;rw[C4]at q;cases q;exact⟨Cv hsz,its,e,rv,kC _ _ (Ab9 N) pd⟩
    .rw[B6 Y]at q;refine(I4.hok b o q).stay (λc v hc q'=>kC c v ?_ q') (λc q'=>by rw[B6 (G7 q' H3D)];exact q') λc xs q'=>by rw[B6 (G7 q' H3D)];exact q'
     rcases hc with z | z
     .rw[z];exact G7 q H3C
     .exact G7 z H3C
   have os4:s4.os=M.os:=I4.os
   exact I2.call' (s':={s4 with heap:=h'}) os4 u2 hok I4.bare λb Y=>⟨(f2 b Y).2.2.2.1,(f2 b Y).2.1,(f2 b Y).2.2.2.2.1,(f2 b Y).2.2.2.2.2⟩
  .refine thn (Tn.item (cxC X N' scope cl C U M R) rfl rfl rfl hc i _ s3 _ B _ I3 (stat fr3) st3 go) λr s4 ⟨u,hr,h4⟩=>?_
   subst hr;refine thn h4 λ_ s5 ⟨x,H5,I5,r5,y5,st5,fr5⟩=>?_
   have I5':=I5.pinned (stat fr5) (Tn.obj _ _ st5)
   have hln:T.length<=(stC T.length is σ).length:=by unfold stC;simp
   refine thn (pgx _ s5 _ H5 x u _ I5' r5 (hg x _ H5 _ hln (step x H5 y5))) λ_ s6 ⟨σ6,H6,I6,q6,l6,k6⟩=>?_
   refine thn (pix _ s6 σ6 H6 _ I6 q6) λb s7 ⟨H7,I7,q7⟩=>?_
   have back:∀{H8:Hp} {s8:Shared} {its':AG} {e':Nat},Inv (cxC X N' scope cl C U M R) (bA++[(D,aU2 its' e')]++aE7 U s5.heap) σ6 H8 s8->Inv (cxC X N' scope cl C U M R) (bA++[(D,aU2 its' e')]) (stC T.length is σ) H8 s8/\tn (i+1) s8.heap/\∀b∈U,H8 b=none:=λ{H8 s8 its' e'} I8=>by
    refine⟨I8.unpinned.weak l6.symm λj v q=>?_,Tn.keep _ _ _ st5 λb Y o q=>(I8.pin (b,o) (Ac1 _ (Ac1 _ (aH7 Y q)))).1,λb Y=>?_⟩
    .by_cases hj:T.length<=j
     .rw[k6 j hj];exact q
     .unfold stC at q;rw[Ca (by simpa using hj),Ck,Ac (by lia)]at q
      cases q
    .obtain⟨o,q,d⟩:=Tn.obj _ _ st5 b Y;exact(I8.pin (b,o) (Ac1 _ (Ac1 _ (aH7 Y q)))).2.1
   cases b with
   | false=>
    rw[Ab Ah]at q7 ⊢;obtain⟨m',hm,w7⟩:=q7;obtain⟨J1,J2,J3⟩:=back I7;exact⟨m',hm,i+1,ys,its,e,H7,J1,J2,J3,rv,w7⟩
   | true=>
    rw[Ac rfl]at q7 ⊢;refine thn (pex _ s7 σ6 H7 _ I7 q7) λy s8 ⟨yv,H8,I8,r8,m',hm,w8⟩=>?_
    obtain⟨pd,H8D,_⟩:=I8.pin (D,aU2 its e) (by simp)
    have pl:s8.heap.PlainList D its.toArray:=⟨e,pd⟩
    refine wpAny_list_append_plain pl (λh9 pl9 sb9=>?_) (by have:=rv.length;simp;lia)
    obtain⟨e9,hl9⟩:=pl9;have ea:its.toArray.push y=(its++[y]).toArray:=by simp
    rw[ea]at hl9;have I8':Inv (cxC X N' scope cl C U M R) (bA++aE7 U s5.heap) σ6 H8 s8:=I8.pins_of λp hp=>I8.pin p (Ac1 _ ((Aa0.mp hp).elim (λz=>Bo _ (Bo _ z)) λz=>Ac1 _ z))
    have I9:Inv (cxC X N' scope cl C U M R) (bA++aE7 U s5.heap) σ6 H8 {s8 with heap:=h9}:=by
     refine I8'.turned (t':=s8.toks) (it:=D) (λb o Y q=>(sb9.2 b Y).trans q) H8D (Ab9 N) (.inr (by show M.heap.objs.size<=D;rw[hD];exact Aa7 _)) (λx c z=>Ab9 (cel x c z)) λp hp=>?_
     have hp:p∈X.pn++(bA++aE7 U s5.heap):=hp
     rw[<- Ad7]at hp;rcases Aa0.mp hp with z | z
     .exact Ab9 (lt p z)
     .exact Ab9 (P _ (bW2 z).1)
    have I9':Inv (cxC X N' scope cl C U M R) (bA++[(D,aU2 (its++[y]) e9)]++aE7 U s5.heap) σ6 H8 {s8 with heap:=h9}:=I9.pins_of λp hp=>by
     rcases Aa0.mp hp with z | z
     .rcases Aa0.mp z with z | z
      .exact I9.pin p (Ac1 _ (Bo _ z))
      .have ep:p=(D,aU2 (its++[y]) e9):=by simpa using z
       subst ep;exact⟨hl9,H8D,Ab9 N,λz=>Ad9 _ (stk D z),λv z=>by cases z⟩
     .exact I9.pin p (Ac1 _ (Ac1 _ z))
    obtain⟨J1,J2,J3⟩:=back I9';exact⟨m',hm,i+1,ys++[yv],its++[y],e9,H8,J1,J2,J3,rv.append (.cons r8 .nil),w8⟩
 refine codeAny_compStart_list loop ?_;exact Tn.self _ 0 _ _ _ (Tn.keep _ _ _ st2 λb _ o q=>old b o q) loop
theorem U5 (Y:X.calm=true)(S:CScope X scope cl T is N')(hi:PI X tg iter wi)(U:bT0 T.length g)
  (j:∀C ex s H,PG (cxC X N' scope cl C ex s H) tg g/\PIfs (cxC X N' scope cl C ex s H) ifs tt/\PE (cxC X N' scope cl C ex s H) elt te)
  (M:∀x,foldedSetIterable iter X.env x=pure x:=by intro _;rfl):PE X (.ListComp elt [⟨tg,iter,ifs,0⟩] scope pos) (dK5 wi T.length is g tt te):=by
 refine⟨?_⟩;intro F s σ H Q I h;rw[eval_ListComp];refine dC1 Y S hi U j M I h λD C w B ⟨⟨N,e⟩,J,_⟩ q=>?_
 exact⟨N,e,λr R=>⟨.ref D,w,J r R,rfl,q⟩⟩
end
end L2
namespace LV
open PySem L2
def _root_.L2.excO (x C:Addr):HO:=.ext λh=>∃o vs,h.get? x=some o/\o.cls=.ref C/\o.data=.fields vs
def _root_.L2.dEnt (x:AD×Addr×Value):DictEntry:=⟨reduceHash (Builtin.Tuple.tupleHashOf (x.1.map hashInt)),.ref x.2.1,x.2.2⟩
def _root_.L2.dicO (a:Addr)(kv:List (AD×Addr×V)):HO:=.ext λh=>∃xs:List (AD×Addr×Value),Paired (λp q=>p.1=q.1/\p.2.1=q.2.1/\RelV p.2.2 q.2.2) kv xs /\
 kv.length<=sizeLine/\(a==sysModules)=false/\∃o es ep,h.get? a=some o/\o.ExactDict/\o.data=.dict es ep/\es.toList=xs.map L2.dEnt/\(xs.map (·.1)).Nodup
inductive HM where
 | l (xs:List V) | x (a:Addr) (kv:List (AD×Addr×V))
def HM.ho:HM->HO
 | .l xs=>.lst xs
 | .x a kv=>L2.dicO a kv
theorem HM.nt {u:HM}{xs:List V}(h:u.ho=.tup xs):False:=by cases u <;> cases h
theorem HM.nf {u:HM}{o:Obj}{v:HO}(h:u.ho=.frz o v):False:=by cases u <;> cases h
def _root_.L2.excD (x C:Addr)(d:AK):HO:=.ext λh=>∃o vs,h.get? x=some o/\o.cls=.ref C/\o.data=.fields vs/\o.dict=d
theorem HM.nd {u:HM}{x C:Addr}{d:AK}(h:u.ho=L2.excD x C d):False:=by
 cases u with
 | l xs=>cases h
 | x a kv=>
  have e:=HO.ext.inj h
  have j:=congrFun e ⟨Array.replicate (x+1) {cls:=.ref C,data:=.fields #[],dict:=d},{}⟩
  have g:∀b o,(Heap.get? ⟨Array.replicate (x+1) {cls:=.ref C,data:=.fields #[],dict:=d},{}⟩ b)=some o->o={cls:=.ref C,data:=.fields #[],dict:=d}:=λb o q=>by
   unfold Heap.get? at q;dsimp only at q;rw[Array.getElem?_replicate]at q;by_cases r:b<x+1
   .rw[Ac r]at q;exact(Ab4 q).symm
   .rw[Ab r]at q;cases q
  have y:=j.mpr ⟨{cls:=.ref C,data:=.fields #[],dict:=d},#[],by unfold Heap.get?;dsimp only;rw[Array.getElem?_replicate,Ac (by lia)],rfl,rfl,rfl⟩
  obtain⟨_,_,_,_,o,Y,s,h1,_,w,_⟩:=y;rw[g a o h1]at w;cases w
def cY9:PyData->Bool
 | .none | .bool _ | .int _ | .str _=>true
 | .tuple ds=>ds.all λd=>match d with | .int _=>true | _=>false
 | _=>false
def dR7 (K:Frag)(H:Hp)(v:V):PyData->Prop
 | .none=>v=.non
 | .bool b=>v=.bl b
 | .int i=>v=.int i
 | .str x=>v=.str x
 | .tuple ds=>∃(a:Addr) (l:AD),v=.ref a/\ds=l.map PyData.int/\SqT K H a (l.map V.int)
 | _=>False
def dM8 (kvs:List (AD×PyData)):List (PyData×PyData):=kvs.map λx=>(PyData.tuple (x.1.map PyData.int),x.2)
def dD (kvs:List (AD×PyData)):PyData:=if kvs.all (λx=>cY9 x.2) then .dict (dM8 kvs) else .dict [(.none,.none)]
def KvF (K:Frag)(H:Hp):List (AD×Addr×V)->List (AD×PyData)->Prop:=Paired λx y=>x.1=y.1/\SqT K H x.2.1 (x.1.map V.int)/\dR7 K H x.2.2 y.2
def inD (C:Addr)(fs:List (Str×Int)):PyData:=.dict ((.int (C:Nat),.bool true)::fs.map λx=>(.str x.1,.int x.2))
def diD (kvs:List (Int×AD)):PyData:=.dict ((.bool true,.none)::kvs.map λx=>(.int x.1,.tuple (x.2.map PyData.int)))
def DiF (K:Frag)(H:Hp):List (Int×Addr)->List (Int×AD)->Prop:=Paired λx y=>x.1=y.1/\SqT K H x.2 (y.2.map V.int)
def sV:PyData->Option V
 | .none=>some .non
 | .bool b=>some (.bl b)
 | .int i=>some (.int i)
 | .str x=>some (.str x)
 | _=>none
def cJ8 (K:Frag)(H:Hp)(v:V):PyData->Prop
 | .tuple ds=>∃(a:Addr) (xs:List V),v=.ref a/\SqT K H a xs/\xs.map some=ds.map sV
 | d=>sV d=some v
def xfD (C:Addr)(fs:List (Str×PyData)):PyData:=.dict ((.int (C:Nat),.bool false)::fs.map λx=>(.str x.1,x.2))
def FdF (K:Frag)(H:Hp):List (Str×V)->List (Str×PyData)->Prop:=Paired λx y=>x.1=y.1/\cJ8 K H x.2 y.2
def XdA (H:Hp)(vs:List (Str×V)):AK->Prop
 | none=>vs=[]
 | some dx=>H dx=some (.xd vs)
mutual
inductive Rep (K:Frag)(H:Hp):V->PyData->Prop
 | non:Rep K H .non .none
 | bl (b:Bool):Rep K H (.bl b) (.bool b)
 | int (i:Int):Rep K H (.int i) (.int i)
 | str (x:Str):Rep K H (.str x) (.str x)
 | tup {a:Addr} {xs:List V} {ds:AF}:SqT K H a xs->Reps K H xs ds->Rep K H (.ref a) (.tuple ds)
 | lst {a:Addr} {xs:List V} {ds:AF}:SqL K H a xs->Reps K H xs ds->Rep K H (.ref a) (.list ds)
 | exc {a C:Addr}:H a=some (L2.excO a C)->Rep K H (.ref a) (.dict [(.int (C:Nat),.none)])
 | ptr {a:Addr}:Rep K H (.ref a) (.dict [(.none,.none)])
 | adr {a:Addr}:Rep K H (.ref a) (.dict [(.int (a:Nat),.none),(.none,.none)])
 | exd {a C:Addr} {d:AK} {vs:List (Str×V)} {fs:List (Str×PyData)}:H a=some (L2.excD a C d)->XdA H vs d->FdF K H vs fs->Rep K H (.ref a) (.dict ((.int (C:Nat),.bool false)::fs.map λx=>(.str x.1,x.2)))
 | ins {a C dx:Addr} {fs:List (Str×Int)}:H a=some (.ins C dx (fs.map λx=>(x.1,V.int x.2)))->Rep K H (.ref a) (.dict ((.int (C:Nat),.bool true)::fs.map λx=>(.str x.1,.int x.2)))
 | dki {a:Addr} {kv:List (Int×Addr)} {kvs:List (Int×AD)}:H a=some (.dK (kv.map λx=>((Sum.inl x.1:L2.Key),V.ref x.2)))->DiF K H kv kvs->Rep K H (.ref a) (.dict ((.bool true,.none)::kvs.map λx=>(.int x.1,.tuple (x.2.map PyData.int))))
 | dic {a:Addr} {kv:List (AD×Addr×V)} {kvs:List (AD×PyData)} {ds:List (PyData×PyData)}:H a=some (L2.dicO a kv)->KvF K H kv kvs->ds=dM8 kvs->Rep K H (.ref a) (.dict ds)
inductive Reps (K:Frag)(H:Hp):List V->AF->Prop
 | nil:Reps K H [] []
 | cons {v:V} {d:PyData} {vs:List V} {ds:AF}:Rep K H v d->Reps K H vs ds->Reps K H (v::vs) (d::ds)
end
section
theorem _root_.L2.Same.rf (H:Hp):Same H H:=λ_ _ e=>e
theorem _root_.L2.Same.tr {H1 H2 H3:Hp}(a:Same H1 H2)(b:Same H2 H3):Same H1 H3:=λx o e=>b x o (a x o e)
theorem aA1 (h:Same H H')(r:Rd H a u):Rd H' a u:=by
 rcases r with e | ⟨o,e⟩
 .exact .inl (h _ _ e)
 .exact .inr ⟨o,h _ _ e⟩
theorem G8 (h:Same H H'){a:Addr}{xs:List V}(r:SqT K H a xs):SqT K H' a xs:=r.imp (aA1 h) id
theorem Y9 (h:Same H H')(r:SqL K H a xs):SqL K H' a xs:=r.imp (aA1 h) id
theorem dB1 (h:Same H H'):∀{d:PyData},dR7 K H v d->dR7 K H' v d
 | .none,r | .bool _,r | .int _,r | .str _,r=>r
 | .tuple _,⟨a,l,e,w,s⟩=>⟨a,l,e,w,G8 h s⟩
 | .list _,r | .dict _,r=>r
theorem cH5 (h:Same H H')(r:KvF K H kv kvs):KvF K H' kv kvs:=by
 unfold KvF at *;induction r with
 | nil=>exact .nil
 | cons a _ e=>exact .cons ⟨a.1,G8 h a.2.1,dB1 h a.2.2⟩ e
theorem dF1 (h:Same H H')(r:DiF K H kv kvs):DiF K H' kv kvs:=by
 unfold DiF at *;induction r with
 | nil=>exact .nil
 | cons a _ e=>exact .cons ⟨a.1,G8 h a.2⟩ e
theorem dA5 (h:Same H H'):∀{d:PyData},cJ8 K H v d->cJ8 K H' v d
 | .none,r | .bool _,r | .int _,r | .str _,r | .list _,r | .dict _,r=>r
 | .tuple _,⟨a,xs,e,s,w⟩=>⟨a,xs,e,G8 h s,w⟩
theorem aC0 (h:Same H H')(r:FdF K H vs fs):FdF K H' vs fs:=by
 unfold FdF at *;induction r with
 | nil=>exact .nil
 | cons a _ e=>exact .cons ⟨a.1,dA5 h a.2⟩ e
theorem cL3 (h:Same H H'):∀{d:AK},XdA H vs d->XdA H' vs d
 | none,r=>r
 | some _,r=>h _ _ r
mutual
theorem cE8 (h:Same H H'):∀(d:PyData) {v:V},Rep K H v d->Rep K H' v d
 | .none,_,r=>by cases r;exact .non
 | .bool _,_,r=>by cases r;exact .bl _
 | .int _,_,r=>by cases r;exact .int _
 | .str _,_,r=>by cases r;exact .str _
 | .tuple ds,_,r=>by cases r with | tup s rs=>exact .tup (G8 h s) (aP4 h ds rs)
 | .list ds,_,r=>by cases r with | lst s rs=>exact .lst (Y9 h s) (aP4 h ds rs)
 | .dict _,_,r=>by cases r with | exc e=>exact .exc (h _ _ e) | ptr=>exact .ptr | adr=>exact .adr | exd e x r=>exact .exd (h _ _ e) (cL3 h x) (aC0 h r) | ins e=>exact .ins (h _ _ e) | dki e r=>exact .dki (h _ _ e) (dF1 h r) | dic e r z=>exact .dic (h _ _ e) (cH5 h r) z
theorem aP4 (h:Same H H'):∀(ds:AF) {vs:List V},Reps K H vs ds->Reps K H' vs ds
 | [],_,r=>by cases r;exact .nil
 | d::ds,_,r=>by cases r with | cons a b=>exact .cons (cE8 h d a) (aP4 h ds b)
end
theorem Rep.mono (r:Rep K H v d)(h:Same H H'):Rep K H' v d:=cE8 h d r
theorem Reps.mono (r:Reps K H vs ds)(h:Same H H'):Reps K H' vs ds:=aP4 h ds r
mutual
def imm:PyData->Bool
 | .none | .bool _ | .int _ | .str _=>true
 | .tuple ds=>N8 ds
 | .list _ | .dict _=>false
def N8:AF->Bool
 | []=>true
 | d::ds=>imm d&&N8 ds
end
mutual
theorem cT7 (h:∀a xs,Rd H a (.tup xs)->Rd H' a (.tup xs)):∀(d:PyData) {v:V},imm d=true->Rep K H v d->Rep K H' v d
 | .none,_,_,r=>by cases r;exact .non
 | .bool _,_,_,r=>by cases r;exact .bl _
 | .int _,_,_,r=>by cases r;exact .int _
 | .str _,_,_,r=>by cases r;exact .str _
 | .tuple ds,_,i,r=>by
  cases r with
  | tup s rs=>exact .tup (s.imp (h _ _) id) (bP2 h ds (by simpa[imm]using i) rs)
 | .list ds,_,i,r=>by simp[imm]at i
 | .dict _,_,i,r=>by simp[imm]at i
theorem bP2 (h:∀a xs,Rd H a (.tup xs)->Rd H' a (.tup xs)):∀(ds:AF) {vs:List V},N8 ds=true->Reps K H vs ds->Reps K H' vs ds
 | [],_,_,r=>by cases r;exact .nil
 | d::ds,_,i,r=>by
  have e:imm d=true/\N8 ds=true:=by simpa[N8]using i
  cases r with | cons a b=>exact .cons (cT7 h d e.1 a) (bP2 h ds e.2 b)
end
theorem Reps.length:∀{vs:List V} {ds:AF},Reps K H vs ds->vs.length=ds.length
 | _,[],r=>by cases r;rfl
 | _,d::ds,r=>by cases r with | cons a b=>simp[Reps.length b]
theorem Reps.get:∀{vs:List V} {ds:AF} {i:Nat} {v:V},Reps K H vs ds->vs[i]? = some v->∃d,ds[i]? = some d/\Rep K H v d
 | _,[],_,_,r,e=>by cases r;simp at e
 | _,d::ds,0,v,r,e=>by
  cases r with | cons a b=>simp at e;subst e;exact⟨d,rfl,a⟩
 | _,d::ds,i+1,v,r,e=>by
  cases r with
  | cons a b=>
   obtain⟨d',h1,h2⟩:=Reps.get (i:=i) (v:=v) b (by simpa using e)
   exact⟨d',by simpa using h1,h2⟩
theorem Reps.get':∀{vs:List V} {ds:AF} {i:Nat} {d:PyData},Reps K H vs ds->ds[i]? = some d->∃v,vs[i]? = some v/\Rep K H v d
 | _,[],_,_,r,e=>by simp at e
 | _,d::ds,0,v,r,e=>by
  cases r with | cons a b=>simp at e;subst e;exact⟨_,rfl,a⟩
 | _,d::ds,i+1,v,r,e=>by
  cases r with
  | cons a b=>
   obtain⟨d',h1,h2⟩:=Reps.get' (i:=i) b (by simpa using e)
   exact⟨d',by simpa using h1,h2⟩
theorem Reps.append:∀{vs us:List V} {ds es:AF},Reps K H vs ds->Reps K H us es->Reps K H (vs++us) (ds++es)
 | _,_,[],_,r,s=>by cases r;exact s
 | _,_,d::ds,_,r,s=>by cases r with | cons a b=>exact .cons a (Reps.append b s)
theorem Reps.drop:∀{vs:List V} {ds:AF} (n:Nat),Reps K H vs ds->Reps K H (vs.drop n) (ds.drop n)
 | _,_,0,r=>r
 | _,[],n+1,r=>by cases r;exact .nil
 | _,d::ds,n+1,r=>by cases r with | cons a b=>exact Reps.drop n b
theorem Reps.take:∀{vs:List V} {ds:AF} (n:Nat),Reps K H vs ds->Reps K H (vs.take n) (ds.take n)
 | _,_,0,r=>.nil
 | _,[],n+1,r=>by cases r;exact .nil
 | _,d::ds,n+1,r=>by cases r with | cons a b=>exact .cons a (Reps.take n b)
theorem Reps.set:∀{vs:List V} {ds:AF} (n:Nat) {v:V} {d:PyData},Reps K H vs ds->Rep K H v d->Reps K H (vs.set n v) (ds.set n d)
 | _,[],n,_,_,r,_=>by cases r;exact .nil
 | _,e::ds,0,_,_,r,s=>by cases r with | cons a b=>exact .cons s b
 | _,e::ds,n+1,_,_,r,s=>by cases r with | cons a b=>exact .cons a (Reps.set n b s)
theorem Reps.eraseIdx:∀{vs:List V} {ds:AF} (n:Nat),Reps K H vs ds->Reps K H (vs.eraseIdx n) (ds.eraseIdx n)
 | _,[],n,r=>by cases r;exact .nil
 | _,e::ds,0,r=>by cases r with | cons a b=>exact b
 | _,e::ds,n+1,r=>by cases r with | cons a b=>exact .cons a (Reps.eraseIdx n b)
theorem Reps.dropLast {vs:List V}{ds:AF}(r:Reps K H vs ds):Reps K H vs.dropLast ds.dropLast:=by
 rw[List.dropLast_eq_take,List.dropLast_eq_take,r.length];exact r.take _
theorem Reps.reverse:∀{vs:List V} {ds:AF},Reps K H vs ds->Reps K H vs.reverse ds.reverse
 | _,[],r=>by cases r;exact .nil
 | _,d::ds,r=>by
  cases r with
  | cons a b=>rw[List.reverse_cons,List.reverse_cons];exact(Reps.reverse b).append (.cons a .nil)
theorem aC6:∀(l:AD),Reps K H (l.map V.int) (l.map PyData.int)
 | []=>.nil
 | i::l=>.cons (.int i) (aC6 l)
theorem Reps.ints:∀{l:AD} {vs:List V},Reps K H vs (l.map PyData.int)->vs=l.map V.int
 | [],_,r=>by cases r;rfl
 | i::l,_,r=>by
  cases r with
  | cons a b=>cases a;rw[Reps.ints b];rfl
end
open Classical in
noncomputable def hid (S:Addr->Prop)(H:Hp):Hp:=λb=>if S b then none else H b
section
theorem hid_some:hid S H b=some o↔¬S b/\H b=some o:=by
 unfold hid;by_cases h:S b
 .rw[Ac h];exact⟨(λe=>nomatch e),λe=>absurd h e.1⟩
 .rw[Ab h];exact⟨λe=>⟨h,e⟩,λe=>e.2⟩
theorem X1:Same (hid S H) H:=λb o e=>(hid_some.mp e).2
theorem K3 (h:Same H H')(w:∀b,S' b->H b≠none->S b):Same (hid S H) (hid S' H'):=λb o e=>by
 obtain⟨a,c⟩:=hid_some.mp e;exact hid_some.mpr ⟨λz=>a (w b z (by rw[c];simp)),h b o c⟩
theorem L7 (h:Same H H'):Same (hid S H) (hid S H'):=K3 h λ_ z _=>z
theorem aH0 (w:∀b,S b->∃u:HM,H b=some u.ho)(r:Rd H a (.tup xs)):Rd (hid S H) a (.tup xs):=by
 have n:¬S a:=λz=>by
  obtain⟨j,e⟩:=w a z;rcases r with r | ⟨o,r⟩ <;> rw[e]at r <;> replace r:=Ab4 r
  .exact HM.nt r
  .exact HM.nf r
 rcases r with r | ⟨o,r⟩
 .exact .inl (hid_some.mpr ⟨n,r⟩)
 .exact .inr ⟨o,hid_some.mpr ⟨n,r⟩⟩
end
inductive OT where
 | leaf (d:PyData) | tup (ts:List OT) | lst (ts:List OT) | dic (kvs:List (AD×PyData))
mutual
def OT.data:OT->PyData
 | .leaf d=>d
 | .tup ts=>.tuple (OT.datas ts)
 | .lst ts=>.list (OT.datas ts)
 | .dic kvs=>dD kvs
def OT.datas:List OT->AF
 | []=>[]
 | t::ts=>t.data::OT.datas ts
end
mutual
/-- v is the tree t;L: its lists -/
inductive Dp (K:Frag)(Z H:Hp):V->OT->AL->Prop
 | leaf {v:V} {d:PyData}:Rep K Z v d->Dp K Z H v (.leaf d) []
 | tup {a:Addr} {xs:List V} {ts:List OT} {L:AL}:SqT K H a xs->Dps K Z H xs ts L->Dp K Z H (.ref a) (.tup ts) L
 | lst {a:Addr} {xs:List V} {ts:List OT} {L:AL}:H a=some (.lst xs)->Dps K Z H xs ts L->Dp K Z H (.ref a) (.lst ts) (a::L)
 | dic {a:Addr} {kv:List (AD×Addr×V)} {kvs:List (AD×PyData)}:H a=some (L2.dicO a kv)->kv.map (·.1)=kvs.map (·.1)->Reps K Z (kv.map λx=>V.ref x.2.1) (kvs.map λx=>PyData.tuple (x.1.map PyData.int))->Reps K Z (kv.map (·.2.2)) (kvs.map (·.2))->Dp K Z H (.ref a) (.dic kvs) [a]
inductive Dps (K:Frag)(Z H:Hp):List V->List OT->AL->Prop
 | nil:Dps K Z H [] [] []
 | cons {v:V} {t:OT} {vs:List V} {ts:List OT} {L L':AL}:Dp K Z H v t L->Dps K Z H vs ts L'->Dps K Z H (v::vs) (t::ts) (L++L')
end
section
mutual
/-- only its lists and what is below count -/
theorem aP1 (w:Same Z Z')(j:∀a xs,Rd H a (.tup xs)->Rd H' a (.tup xs)):∀(t:OT) {v:V} {L:AL},(∀b∈L,H' b=H b)->Dp K Z H v t L->Dp K Z' H' v t L
 | .leaf d,_,_,_,r=>by cases r with | leaf r=>exact .leaf (r.mono w)
 | .tup ts,_,_,e,r=>by cases r with | tup s r=>exact .tup (s.imp (j _ _) id) (aC4 w j ts e r)
 | .lst ts,_,_,e,r=>by
  cases r with
  | lst s r=>exact .lst (by rw[e _ (by simp)];exact s) (aC4 w j ts (λb h=>e b (by simp[h])) r)
 | .dic kvs,_,_,e,r=>by
  cases r with
  | dic s k Y X=>exact .dic (by rw[e _ (by simp)];exact s) k (Y.mono w) (X.mono w)
theorem aC4 (w:Same Z Z')(e:∀a xs,Rd H a (.tup xs)->Rd H' a (.tup xs)):∀(ts:List OT) {vs:List V} {L:AL},(∀b∈L,H' b=H b)->Dps K Z H vs ts L->Dps K Z' H' vs ts L
 | [],_,_,_,r=>by cases r;exact .nil
 | t::ts,_,_,hl,r=>by
  cases r with
  | cons a b=>exact .cons (aP1 w e t (λb h=>hl b (by simp[h])) a) (aC4 w e ts (λb h=>hl b (by simp[h])) b)
end
mutual
theorem aL9:∀(t:OT) {v:V} {L:AL},Dp K Z H v t L->∀b∈L,∃u:HM,H b=some u.ho
 | .leaf d,_,_,r=>by cases r with | leaf r=>intro b h;simp at h
 | .tup ts,_,_,r=>by cases r with | tup s r=>exact aB9 ts r
 | .lst ts,_,_,r=>by
  cases r with
  | lst s r=>
   intro b h;rcases Aa1.mp h with rfl | h
   .exact⟨.l _,s⟩
   .exact aB9 ts r b h
 | .dic kvs,_,_,r=>by
  cases r with
  | dic s k e w=>
   intro b h;rw[Ad8.mp h];exact⟨.x _ _,s⟩
theorem aB9:∀(ts:List OT) {vs:List V} {L:AL},Dps K Z H vs ts L->∀b∈L,∃u:HM,H b=some u.ho
 | [],_,_,r=>by cases r;intro b h;simp at h
 | t::ts,_,_,r=>by
  cases r with
  | cons a b=>
   intro c h;rcases Aa0.mp h with h | h
   .exact aL9 t a c h
   .exact aB9 ts b c h
end
theorem cF5:∀{d:PyData},cY9 d=true->Rep K H v d->dR7 K H v d
 | .none,_,r=>by cases r;rfl
 | .bool _,_,r=>by cases r;rfl
 | .int _,_,r=>by cases r;rfl
 | .str _,_,r=>by cases r;rfl
 | .list _,f,_=>by cases f
 | .dict _,f,_=>by cases f
 | .tuple ds,f,r=>by
  cases r with
  | @tup a xs _ s rs=>
   have j:∀(ds:AF) (xs:List V),(ds.all λd=>match d with | .int _=>true | _=>false)=true->Reps K H xs ds->∃l:AD,ds=l.map PyData.int/\xs=l.map V.int:=λds=>by
    induction ds with
    | nil=>intro xs _ r;cases r;exact⟨[],rfl,rfl⟩
    | cons d ds Y=>
     intro xs f r;rw[List.all_cons,Ap]at f;cases r with
     | cons a b=>
      obtain⟨l,e,w⟩:=Y _ f.2 b;cases d with
      | int i=>cases a;exact⟨i::l,by rw[e];rfl,by rw[w];rfl⟩
      | _=>cases f.1
   obtain⟨l,e,w⟩:=j ds xs f rs;exact⟨a,l,rfl,e,by rw[<- w];exact s⟩
theorem dG2:∀{kv:List (AD×Addr×V)} {kvs:List (AD×PyData)},kvs.all (λx=>cY9 x.2)=true->kv.map (·.1)=kvs.map (·.1)->Reps K H (kv.map λx=>V.ref x.2.1) (kvs.map λx=>PyData.tuple (x.1.map PyData.int))->Reps K H (kv.map (·.2.2)) (kvs.map (·.2))->KvF K H kv kvs
 | [],[],_,_,_,_=>.nil
 | [],_::_,_,e,_,_=>by simp at e
 | _::_,[],_,e,_,_=>by simp at e
 | x::kv,y::kvs,f,e,r1,r2=>by
  simp only[Ac7,Ax]at e r1 r2;rw[List.all_cons,Ap]at f;cases r1 with
  | cons a1 b1=>
   cases r2 with
   | cons a2 b2=>
    refine .cons ⟨e.1,?_,cF5 f.1 a2⟩ (dG2 f.2 e.2 b1 b2);have z:dR7 K H (.ref x.2.1) (PyData.tuple (y.1.map PyData.int)):=cF5 (by simp[cY9,List.all_map,Function.comp_def]) a1
    obtain⟨a,l,h1,h2,h3⟩:=z;cases h1
    have:y.1=l:=by
     have inj:∀(u v:AD),u.map PyData.int=v.map PyData.int->u=v:=λu=>by
      induction u with
      | nil=>intro v h;cases v <;> simp at h ⊢
      | cons c u ih=>intro v h;cases v with
       | nil=>simp at h
       | cons c' v=>simp at h;rw[h.1,ih v h.2]
     exact inj _ _ h2
    rw[e.1,this];exact h3
mutual
/-- the tree is a datum,where one sees its lists -/
theorem cR1 (Y:Same Z H)(j:∀a xs,Rd H a (.tup xs)->Rd H' a (.tup xs))(e:Same Z H'):∀(t:OT) {v:V} {L:AL},(∀b∈L,H' b=H b)->Dp K Z H v t L->Rep K H' v t.data
 | .leaf d,_,_,_,r=>by cases r with | leaf r=>exact r.mono e
 | .tup ts,_,_,w,r=>by
  cases r with
  | tup s r=>exact .tup (s.imp (j _ _) id) (bY7 Y j e ts w r)
 | .lst ts,_,_,w,r=>by
  cases r with
  | lst s r=>exact .lst (SqL.of (by rw[w _ (by simp)];exact s)) (bY7 Y j e ts (λb h=>w b (by simp[h])) r)
 | .dic kvs,_,_,w,r=>by
  cases r with
  | dic s k X U=>
   show Rep K H' _ (dD kvs)
   unfold dD;split
   .rename_i f;exact .dic (by rw[w _ (by simp)];exact s) (cH5 e (dG2 f k X U)) rfl
   .exact .ptr
theorem bY7 (j:Same Z H)(w:∀a xs,Rd H a (.tup xs)->Rd H' a (.tup xs))(e:Same Z H'):∀(ts:List OT) {vs:List V} {L:AL},(∀b∈L,H' b=H b)->Dps K Z H vs ts L->Reps K H' vs (OT.datas ts)
 | [],_,_,_,r=>by cases r;exact .nil
 | t::ts,_,_,hl,r=>by
  cases r with
  | cons a b=>exact .cons (cR1 j w e t (λb h=>hl b (by simp[h])) a) (bY7 j w e ts (λb h=>hl b (by simp[h])) b)
end
theorem Dp.mono (r:Dp K Z H v t L)(j:Same Z Z')(h:Same H H'):Dp K Z' H' v t L:=
 aP1 j (λ_ _=>aA1 h) t (λb w=>by obtain⟨xs,e⟩:=aL9 t r b w;rw[e];exact h _ _ e) r
end
inductive Sl where
 | no | val (d:PyData) | own (ds:AF) | bor (d:PyData) | tr (t:OT)
def Sl.os:Sl->Bool
 | .own _=>true
 | .tr _=>true
 | _=>false
def F1 (ρ:List Sl)(o:Nat->AL)(S:Addr->Prop)(b:Addr):Prop:=S b\/∃(i:Nat) (x:Sl),ρ[i]? = some x/\x.os=true/\b∈o i
structure Env (K:Frag)(S:Addr->Prop)(B H:Hp)(σ:St)(ρ:List Sl)(o:Nat->AL):Prop where
 len:σ.length=ρ.length
 base:Same B H
 sl:∀b,S b->∃u:HM,B b=some u.ho
 new:∀(i:Nat) (x:Sl),ρ[i]? = some x->x.os=true->∀b∈o i,B b=none
 inj:∀(i j:Nat) (x y:Sl),ρ[i]? = some x->ρ[j]? = some y->x.os=true->y.os=true->∀b,b∈o i->b∈o j->i=j
 own:∀(i:Nat) (ds:AF),ρ[i]? = some (.own ds)->∃p,o i=[p]/\σ[i]? = some (some (.ref p))/\∃xs,H p=some (.lst xs)/\Reps K (hid (F1 ρ o S) H) xs ds
 val:∀(i:Nat) (d:PyData),ρ[i]? = some (.val d)->∃v,σ[i]? = some (some v)/\Rep K (hid (F1 ρ o S) H) v d
 bor:∀(i:Nat) (d:PyData),ρ[i]? = some (.bor d)->∃v,σ[i]? = some (some v)/\Rep K H v d
 tr:∀(i:Nat) (t:OT),ρ[i]? = some (.tr t)->(o i).Nodup/\∃v,σ[i]? = some (some v)/\Dp K (hid (F1 ρ o S) H) H v t (o i)
section
theorem Env.grow (e:Env K S B H σ ρ o)(h:Same H H'):Env K S B H' σ ρ o:=
 ⟨e.len,L2.Same.tr e.base h,e.sl,e.new,e.inj,λi ds z=>by
  obtain⟨p,w,a,xs,b,c⟩:=e.own i ds z;exact⟨p,w,a,xs,h _ _ b,c.mono (L7 h)⟩,λi d z=>by
  obtain⟨v,a,b⟩:=e.val i d z;exact⟨v,a,b.mono (L7 h)⟩,λi d z=>by
  obtain⟨v,a,b⟩:=e.bor i d z;exact⟨v,a,b.mono h⟩,λi t z=>by
  obtain⟨n,v,a,b⟩:=e.tr i t z;exact⟨n,v,a,b.mono (L7 h) h⟩⟩
theorem Env.lists (e:Env K S B H σ ρ o):∀b,F1 ρ o S b->∃u:HM,H b=some u.ho:=λb z=>by
 rcases z with z | ⟨i,x,z,r,w⟩
 .obtain⟨xs,q⟩:=e.sl b z;exact⟨xs,e.base _ _ q⟩
 .cases x with
  | own ds=>
   obtain⟨p,j,_,xs,q,_⟩:=e.own i ds z;rw[j]at w;exact⟨.l xs,by rw[Ad8.mp w];exact q⟩
  | tr t=>
   obtain⟨_,v,_,q⟩:=e.tr i t z;exact aL9 t q b w
  | _=>cases r
theorem Env.imm (e:Env K S B H σ ρ o){v:V}{d:PyData}(i:imm d=true)(r:Rep K H v d):Rep K (hid (F1 ρ o S) H) v d:=
 cT7 (λ_ _ q=>aH0 e.lists q) d i r
def dS0 (ρ:List Sl)(o:Nat->AL)(b:Addr):Prop:=∃(i:Nat) (x:Sl),ρ[i]? = some x/\x.os=true/\b∈o i
theorem Env.rebase (e:Env K S B H σ ρ o):Env K S (hid (dS0 ρ o) H) H σ ρ o/\Same B (hid (dS0 ρ o) H):=by
 have s:Same B (hid (dS0 ρ o) H):=λb x q=>
  hid_some.mpr ⟨(λ⟨i,y,z,j,w⟩=>by rw[e.new i y z j b w]at q;cases q),e.base b x q⟩
 refine⟨⟨e.len,X1,λb z=>?_,λi x z r b w=>?_,e.inj,e.own,e.val,e.bor,e.tr⟩,s⟩
 .obtain⟨xs,q⟩:=e.sl b z;exact⟨xs,s _ _ q⟩
 .unfold hid;exact Ac ⟨i,x,z,r,w⟩
end
noncomputable def vw (m:Bool)(S:Addr->Prop)(H:Hp):Hp:=match m with | true=>hid S H | false=>H
def E (K:Frag)(m:Bool)(t:TE)(ρ:List Sl)(d:PyData):Prop:=
 ∀(S:Addr->Prop) (B:Hp) (σ:St) (H:Hp) (o:Nat->AL),Env K S B H σ ρ o->∀Q:VK,(∀v H',Same H H'->Rep K (vw m (F1 ρ o S) H') v d->Q v H')->t σ H Q
def EF (K:Frag)(t:TE)(ρ:List Sl)(ds:AF):Prop:=
 ∀(S:Addr->Prop) (B:Hp) (σ:St) (H:Hp) (o:Nat->AL),Env K S B H σ ρ o->∀Q:VK,
  (∀p xs H',Same H H'->H p=none->H' p=some (.lst xs)->Reps K (hid (λb=>F1 ρ o S b\/b=p) H') xs ds->Q (.ref p) H')->t σ H Q
def T (K:Frag)(t:TT)(ρ:List Sl)(b:Bool):Prop:=
 ∀(S:Addr->Prop) (B:Hp) (σ:St) (H:Hp) (o:Nat->AL),Env K S B H σ ρ o->∀Q:Bool->Hp->Prop,(∀H',Same H H'->Q b H')->t σ H Q
def A (K:Frag)(m:Bool)(t:TA)(ρ:List Sl)(ds:AF):Prop:=
 ∀(S:Addr->Prop) (B:Hp) (σ:St) (H:Hp) (o:Nat->AL),Env K S B H σ ρ o->∀Q:List V->Hp->Prop,(∀vs H',Same H H'->Reps K (vw m (F1 ρ o S) H') vs ds->Q vs H')->t σ H Q
structure Wk (K:Frag)(Z:Hp)(J:It)(ds:AF):Prop where
 stop:∀i H,Same Z H->ds.length<=i->J.stop i H
 go:∀i H d,Same Z H->ds[i]? = some d->J.go i H
 yld:∀i H d x H',Same Z H->ds[i]? = some d->J.yld i H x H'->Same H H'/\∀S:Addr->Prop,(∀b,S b->Z b=none/\H b≠none)->Rep K (hid S H') x d
def I (K:Frag)(m:Bool)(wi:TI)(ρ:List Sl)(ds:AF):Prop:=
 ∀(S:Addr->Prop) (B:Hp) (σ:St) (H:Hp) (o:Nat->AL),Env K S B H σ ρ o->∀R:It->Hp->Prop,(∀J H',Same H H'->Wk K (vw m (F1 ρ o S) H') J ds->R J H')->wi σ H R
def G (K:Frag)(m:Bool)(g:TG)(d:PyData)(ρ ρ':List Sl):Prop:=(∀(o:Nat->AL) (S:Addr->Prop) (b:Addr),F1 ρ' o S b->F1 ρ o S b) /\
 ∀(S:Addr->Prop) (B:Hp) (σ:St) (H:Hp) (o:Nat->AL),Env K S B H σ ρ o->∀v,Rep K (vw m (F1 ρ o S) H) v d->∀Q:St->Hp->Prop,(∀σ',Env K S B H σ' ρ' o->Q σ' H)->g v σ H Q
def Gs (K:Frag)(m:Bool)(g:TGs)(ds:AF)(ρ ρ':List Sl):Prop:=(∀(o:Nat->AL) (S:Addr->Prop) (b:Addr),F1 ρ' o S b->F1 ρ o S b) /\
 ∀(S:Addr->Prop) (B:Hp) (σ:St) (H:Hp) (o:Nat->AL),Env K S B H σ ρ o->∀vs,Reps K (vw m (F1 ρ o S) H) vs ds->∀Q:St->Hp->Prop,(∀σ',Env K S B H σ' ρ' o->Q σ' H)->g vs σ H Q
structure AE where
 nx:List Sl->Prop
 rt:PyData->Prop:=λ_=>False
 rl:AF->Prop:=λ_=>False
 bk:List Sl->Prop:=λ_=>False
 ct:List Sl->Prop:=λ_=>False
structure Sat (K:Frag)(S:Addr->Prop)(B:Hp)(R:AE)(D:bF7):Prop where
 nx:∀ρ' σ' H' o',Env K S B H' σ' ρ' o'->R.nx ρ'->D.nx σ' H'
 rt:∀v d H',Same B H'->Rep K (hid S H') v d->R.rt d->D.rt v H'
 rl:∀p xs ds H',Same B H'->B p=none->H' p=some (.lst xs)->Reps K (hid (λb=>S b\/b=p) H') xs ds->R.rl ds->D.rt (.ref p) H'
 bk:∀ρ' σ' H' o',Env K S B H' σ' ρ' o'->R.bk ρ'->D.bk σ' H'
 ct:∀ρ' σ' H' o',Env K S B H' σ' ρ' o'->R.ct ρ'->D.ct σ' H'
def W (K:Frag)(t:TS)(ρ:List Sl)(R:AE):Prop:=
 ∀(S:Addr->Prop) (B:Hp) (D:bF7) (σ:St) (H:Hp) (o:Nat->AL),Env K S B H σ ρ o->Sat K S B R D->t D σ H
section
theorem aJ1:Same (vw m S H) H:=by cases m;exact L2.Same.rf _;exact X1
theorem bK2 (h:Same H H'):Same (vw m S H) (vw m S H'):=by cases m;exact h;exact L7 h
theorem E.bor (h:E K true t ρ d):E K m t ρ d:=λS B σ H o I Q q=>h S B σ H o I Q λv e s r=>q v e s (by cases m;exact r.mono X1;exact r)
theorem E.imm (h:E K m t ρ d)(i:imm d=true:=by rfl):E K true t ρ d:=λS B σ H o I Q q=>h S B σ H o I Q λv e s r=>q v e s ((I.grow s).imm i (r.mono aJ1))
theorem EF.e' (h:EF K t ρ ds):E K m t ρ (.list ds):=E.bor λS B σ H o I Q q=>h S B σ H o I Q λp xs w s n e r=>q _ _ s
 (.lst (SqL.of (hid_some.mpr ⟨(λz=>by obtain⟨j,y⟩:=I.lists p z;rw[n]at y;cases y),e⟩)) (r.mono (K3 (L2.Same.rf _) λb z _=>.inl z)))
theorem B0 (h:ρ[i]? = some (.val d)):E K m (C7 i) ρ d:=E.bor λS B σ H o I Q q=>by
 obtain⟨v,a,b⟩:=I.val i d h;exact⟨v,a,q v H (L2.Same.rf _) b⟩
theorem P6 (h:ρ[i]? = some (.own ds)):E K false (C7 i) ρ (.list ds):=λS B σ H o I Q q=>by
 obtain⟨p,e,a,xs,b,c⟩:=I.own i ds h;exact⟨_,a,q _ H (L2.Same.rf _) (.lst (SqL.of b) (c.mono X1))⟩
theorem dS3 (h:ρ[i]? = some (.bor d)):E K false (C7 i) ρ d:=λS B σ H o I Q q=>by
 obtain⟨v,a,b⟩:=I.bor i d h;exact⟨v,a,q v H (L2.Same.rf _) b⟩
theorem cH4 (h:∀H,Rep K H v d):E K m (tC v) ρ d:=λS B σ H o I Q q=>q v H (L2.Same.rf _) (h _)
theorem A6:E K m (tC (.int i)) ρ (.int i):=cH4 λ_=>.int i
theorem aT7:E K m (tC (.bl b)) ρ (.bool b):=cH4 λ_=>.bl b
theorem bB6:E K m (tC .non) ρ .none:=cH4 λ_=>.non
theorem O1:E K m (tC (.str x)) ρ (.str x):=cH4 λ_=>.str x
theorem cH9 (j Y:Bool)(J:E K j ta ρ d)(M:E K Y tb ρ d')
  (N:∀(S:Addr->Prop) (H:Hp) (x y:V) (Q:VK),(∀b,S b->∃u:HM,H b=some u.ho)->Rep K (vw j S H) x d->Rep K (vw Y S H) y d'->(∀v H',Same H H'->Rep K (vw m S H') v f->Q v H')->r x y H Q):E K m (tOp r ta tb) ρ f:=
 λS B σ H o I Q q=>J S B σ H o I _ λx X e R=>M S B σ X o (I.grow e) _ λy U w F=>
  N (F1 ρ o S) U x y Q ((I.grow e).grow w).lists (R.mono (bK2 w)) F λv H' s r=>q v H' (L2.Same.tr e (L2.Same.tr w s)) r
theorem cF9 (e:E K false ta ρ (.int i))(w:E K false tb ρ (.int j))(s:∀(H:Hp) (Q:VK),(∀v,(∀H,Rep K H v f)->Q v H)->r (.int i) (.int j) H Q):E K m (tOp r ta tb) ρ f:=
 cH9 false false e w λS H x y Q _ Y X q=>by
  cases Y;cases X
  exact s H Q λv r=>q v H (L2.Same.rf _) (r _)
theorem N4 {g:Int->Int->Int}{i j:Int}(e:E K false ta ρ (.int i))(w:E K false tb ρ (.int j)):E K m (tOp (rI0 λi j=>.int (g i j)) ta tb) ρ (.int (g i j)):=
 cF9 e w λH Q q=>⟨i,j,rfl,rfl,q _ λ_=>.int _⟩
theorem e_i {C:Int->Int->Prop}{g:Int->Int->Int}{i j:Int}(e:E K false ta ρ (.int i))(w:E K false tb ρ (.int j))(r:C i j):E K m (tOp (rI C λi j=>.int (g i j)) ta tb) ρ (.int (g i j)):=
 cF9 e w λH Q q=>⟨i,j,rfl,rfl,r,q _ λ_=>.int _⟩
theorem z4 {g:Int->Int->Bool}{i j:Int}(e:E K false ta ρ (.int i))(w:E K false tb ρ (.int j)):E K m (tOp (rI0 λi j=>.bl (g i j)) ta tb) ρ (.bool (g i j)):=
 cF9 e w λH Q q=>⟨i,j,rfl,rfl,q _ λ_=>.bl _⟩
end
end LV
namespace LV
open PySem L2
section
theorem dF9 (r:Reps K H xs ds)(e:atI ds i=some d):∃v,atI xs i=some v/\Rep K H v d:=by
 unfold atI at e ⊢;rw[r.length];cases h:ixN ds.length i with
 | none=>rw[h]at e;cases e
 | some j=>rw[h]at e;exact r.get' (by simpa using e)
def sq:PyData->Option (AF)
 | .list ds=>some ds
 | .tuple ds=>some ds
 | _=>none
theorem C9 (j:E K m ta ρ d)(Y:E K false tb ρ (.int i))(w:sq d=some ds)(h:atI ds i=some d'):E K m (tOp (rIx K) ta tb) ρ d':=
 cH9 m false j Y λS H x y Q _ X U q=>by
  cases U;cases X with
  | lst s r=>
   cases w
   obtain⟨v,h1,e⟩:=dF9 r h;exact .inl ⟨_,_,i,v,rfl,rfl,Y9 aJ1 s,h1,q v H (L2.Same.rf _) e⟩
  | tup s r=>
   cases w
   obtain⟨v,h1,e⟩:=dF9 r h;exact .inr (.inl ⟨_,_,i,v,rfl,rfl,G8 aJ1 s,h1,q v H (L2.Same.rf _) e⟩)
  | _=>cases w
theorem S1 {α:Type}{xs:List α}{i:Int}{v:α}(n:Nat)(e:i=n)(h:xs[n]? = some v):atI xs i=some v:=by
 subst e;unfold atI ixN
 have:=(Ab0.mp h).1
 rw[Ac (by lia),Ac (by lia)]
 simpa using h
theorem aZ3 {α:Type}{xs:List α}{v:α}:atI (xs++[v]) (-1)=some v:=by
 unfold atI ixN;rw[Ab (by lia),Ac (by simp;lia)]
 have:((-1:Int)+((xs++[v]).length:Nat)).toNat=xs.length:=by simp;lia
 rw[this];simp
theorem A5:A K m R6 ρ []:=λS B σ H o I Q q=>q [] H (L2.Same.rf _) .nil
theorem A1 (s:E K m ta ρ d)(Y:A K m tr ρ ds):A K m (E7 ta tr) ρ (d::ds):=λS B σ H o I Q q=>
 s S B σ H o I _ λx r e X=>Y S B σ r o (I.grow e) _ λxs j w rs=>q _ j (L2.Same.tr e w) (.cons (X.mono (bK2 w)) rs)
theorem G0 (h:H p=none):Same H (upd H p o):=λb x e=>by
 have:b≠p:=λz=>by rw[z,h]at e;cases e
 rw[B6 this];exact e
theorem N3 {t:TA}(h:A K m t ρ ds)(w:ds.length<=sizeLine:=by first | decide | (unfold sizeLine;simp)):E K m (cS5 t) ρ (.tuple ds):=λS B σ H o I Q q=>h S B σ H o I _ λxs r e rs=>⟨by rw[rs.length];exact w,λp hp=>by
 have g:=G0 (o:=.tup xs) hp
 refine q _ _ (L2.Same.tr e g) (.tup (.inl (.inl ?_)) (rs.mono (bK2 g)));cases m with
 | false=>exact C4
 | true=>exact hid_some.mpr ⟨(λz=>by obtain⟨j,y⟩:=(I.grow e).lists p z;rw[hp]at y;cases y),C4⟩⟩
theorem bV6 (w:∀b,S b->∃u:HM,H b=some u.ho)(hp:H p=none)(r:Reps K (hid S H) xs ds):Reps K (hid (λb=>S b\/b=p) (upd H p (.lst ys))) xs ds:=
 r.mono (K3 (G0 hp) λb z n=>z.elim id λe=>absurd (by rw[e];exact hp) n)
theorem G3 {t:TA}(h:A K true t ρ ds)(r:ds.length<=sizeLine:=by first | decide | (unfold sizeLine;simp)):EF K (dK1 t) ρ ds:=λS B σ H o I Q q=>h S B σ H o I _ λxs j w rs=>⟨by rw[rs.length];exact r,λp hp=>
 q p xs _ (L2.Same.tr w (G0 hp)) (by cases e:H p with | none=>rfl | some x=>rw[w _ _ e]at hp;cases hp) C4 (bV6 (I.grow w).lists hp rs)⟩
def spV (K:Frag)(pre:AF->PyData->Prop):Sp:=λvs H Q _=>∃(ds:AF) (S:Addr->Prop) (d:PyData),(∀b,S b->∃u:HM,H b=some u.ho)/\Reps K (hid S H) vs ds/\pre ds d /\
 ∀v H',Same H H'->Rep K (hid S H') v d->Q v H'
def spL (K:Frag)(pre:AF->AF->Prop):Sp:=λvs H Q _=>∃(ds:AF) (S:Addr->Prop) (es:AF),(∀b,S b->∃u:HM,H b=some u.ho)/\Reps K (hid S H) vs ds/\pre ds es /\
 ∀p xs H',Same H H'->H p=none->H' p=some (.lst xs)->Reps K (hid (λb=>S b\/b=p) H') xs es->Q (.ref p) H'
theorem dE4:hid (λ_=>False) H=H:=by funext b;unfold hid;exact Ab id
theorem C3 {pre:AF->PyData->Prop}{t:TA}{X:XK}(j:A K true t ρ ds)(hp:pre ds d):E K m (V3 (spV K pre) [] X t) ρ d:=E.bor λS B σ H o I Q q=>
 j S B σ H o I _ λvs Y e rs=>⟨ds,F1 ρ o S,d,(I.grow e).lists,by rw[Ba];exact rs,hp,λv w s r=>q v w (L2.Same.tr e s) r⟩
theorem p4 (s:Same H H1)(h:H1 p=none):H p=none:=by
 cases e:H p with
 | none=>rfl
 | some x=>rw[s _ _ e]at h;cases h
theorem s9 {pre:AF->AF->Prop}{t:TA}{X:XK}(Y:A K true t ρ ds)(hp:pre ds es):EF K (V3 (spL K pre) [] X t) ρ es:=λS B σ H o I Q q=>
 Y S B σ H o I _ λvs U w rs=>⟨ds,F1 ρ o S,es,(I.grow w).lists,by rw[Ba];exact rs,hp,λp xs j s n e r=>q p xs j (L2.Same.tr w s) (p4 w n) e r⟩
theorem C1 (h:E K false t ρ (.bool b)):T K (p6 t) ρ b:=λS B σ H o I Q q=>h S B σ H o I _ λv e s r=>by cases r;exact⟨b,rfl,q e s⟩
theorem t_b (h:E K false t ρ (.bool b)):T K (tB t) ρ b:=λS B σ H o I Q q=>h S B σ H o I _ λv e s r=>by cases r;exact⟨b,rfl,q e s⟩
theorem aQ2 (h:T K u ρ a)(h':a=true->T K w ρ b):T K (eI1 u w) ρ (a&&b):=λS B σ H o I Q q=>h S B σ H o I _ λr e=>by
 cases a with
 | false=>exact q r e
 | true=>exact h' rfl S B σ r o (I.grow e) _ λj s=>q j (L2.Same.tr e s)
theorem aI5 (h:T K u ρ a)(h':a=false->T K w ρ b):T K (tOr u w) ρ (a||b):=λS B σ H o I Q q=>h S B σ H o I _ λr e=>by
 cases a with
 | true=>exact q r e
 | false=>exact h' rfl S B σ r o (I.grow e) _ λj s=>q j (L2.Same.tr e s)
theorem bI2 (h:T K u ρ a):T K (eH9 u) ρ (!a):=λS B σ H o I Q q=>h S B σ H o I _ q
theorem dD9 (h:E K false ta ρ (.bool a))(h':a=true->E K false tb ρ (.bool b)):E K m (eC0 ta tb) ρ (.bool (a&&b)):=E.bor (E.imm (m:=false) λS B σ H o I Q q=>h S B σ H o I _ λv w e r=>by
 cases r
 refine⟨a,rfl,?_⟩;cases a with
 | false=>exact q _ w e (.bl _)
 | true=>exact h' rfl S B σ w o (I.grow e) _ λv j s r=>q v j (L2.Same.tr e s) r)
theorem eX9 (h:E K false ta ρ (.bool a))(h':a=false->E K false tb ρ (.bool b)):E K m (eV8 ta tb) ρ (.bool (a||b)):=E.bor (E.imm (m:=false) λS B σ H o I Q q=>h S B σ H o I _ λv w e r=>by
 cases r
 refine⟨a,rfl,?_⟩;cases a with
 | true=>exact q _ w e (.bl _)
 | false=>exact h' rfl S B σ w o (I.grow e) _ λv j s r=>q v j (L2.Same.tr e s) r)
theorem eC1 (h:E K false ta ρ (.bool a)):E K m (eC3 ta) ρ (.bool (!a)):=E.bor (E.imm (m:=false) λS B σ H o I Q q=>h S B σ H o I _ λv e w r=>by
 cases r
 exact⟨a,rfl,q _ e w (.bl _)⟩)
theorem eT8 (h:T K u ρ a)(h1:a=true->E K m ta ρ d)(Y:a=false->E K m tb ρ d):E K m (tIf u ta tb) ρ d:=λS B σ H o I Q q=>h S B σ H o I _ λs e=>by
 cases a with
 | true=>exact h1 rfl S B σ s o (I.grow e) _ λv w j r=>q v w (L2.Same.tr e j) r
 | false=>exact Y rfl S B σ s o (I.grow e) _ λv w j r=>q v w (L2.Same.tr e j) r
theorem dW6 (s:SqL K Z a xs)(r:Reps K Z xs ds):Wk K Z (Itl K a) ds where
 stop:=λi H h l=>⟨xs,Y9 h s,by rw[r.length];exact l⟩
 go:=λi H d h e=>by
  obtain⟨v,h1,_⟩:=r.get' e;exact⟨xs,v,Y9 h s,h1⟩
 yld:=λi H d x Y h e y=>by
  obtain⟨rfl,y⟩:=y
  have:=y xs (Y9 h s)
  obtain⟨X,h1,w⟩:=r.get this;rw[e]at h1;cases h1;refine⟨L2.Same.rf _,λS j=>w.mono λb o q=>hid_some.mpr ⟨λz=>?_,h b o q⟩⟩
  rw[(j b z).1]at q;cases q
theorem eL9 (s:SqT K Z a xs)(r:Reps K Z xs ds):Wk K Z (Itt K a) ds where
 stop:=λi H h l=>⟨xs,G8 h s,by rw[r.length];exact l⟩
 go:=λi H d h e=>by
  obtain⟨v,h1,_⟩:=r.get' e;exact⟨xs,v,G8 h s,h1⟩
 yld:=λi H d x Y h e y=>by
  obtain⟨rfl,y⟩:=y
  have:=y xs (G8 h s)
  obtain⟨X,h1,w⟩:=r.get this;rw[e]at h1;cases h1;refine⟨L2.Same.rf _,λS j=>w.mono λb o q=>hid_some.mpr ⟨λz=>?_,h b o q⟩⟩
  rw[(j b z).1]at q;cases q
def aG2 (lo:Int)(n:Nat):AF:=(List.range n).map λ(i:Nat)=>PyData.int (lo+(i:Int))
theorem eK6:Wk K Z (Itr lo n) (aG2 lo n) where
 stop:=λi H h l=>by
  have:n<=i:=by simpa[aG2]using l
  exact this
 go:=λi H d h e=>by
  have:=(Ab0.mp e).1
  have:i<n:=by simpa[aG2]using this
  exact this
 yld:=λi H d x r h e y=>by
  obtain⟨rfl,rfl⟩:=y
  have:d=.int (lo+i):=by
   have hi:=(Ab0.mp e).1
   have w:i<n:=by simpa[aG2]using hi
   unfold aG2 at e;rw[Aa9,List.getElem?_range w]at e;exact(Ab4 e).symm
  subst this;exact⟨L2.Same.rf _,λS j=>.int _⟩
theorem aN3 (h:E K m t ρ (.list ds)):I K m (dP2 K t) ρ ds:=λS B σ H o J R q=>h S B σ H o J _ λv e w r=>by
 cases r with
 | lst s r=>exact⟨_,rfl,⟨_,Y9 aJ1 s⟩,q _ e w (dW6 s r)⟩
theorem bI8 (h:E K m t ρ (.tuple ds)):I K m (eG4 K t) ρ ds:=λS B σ H o J R q=>h S B σ H o J _ λv e w r=>by
 cases r with
 | tup s r=>exact⟨_,rfl,⟨_,G8 aJ1 s⟩,q _ e w (eL9 s r)⟩
theorem a8 {t:TA}{j:Int}(h:A K false t ρ [.int j])(h1 : -(2^62)<=j)(w:j<2^62):I K m (eD6 t) ρ (aG2 0 j.toNat):=λS B σ H o J R q=>h S B σ H o J _ λvs e s r=>by
 cases r with
 | cons a b=>cases a;cases b;exact⟨j,rfl,h1,w,q _ e s eK6⟩
theorem bD0 (r:x.os=false)(z:F1 (ρ.set i x) o S b):F1 ρ o S b:=by
 rcases z with z | ⟨j,y,h,w,e⟩
 .exact .inl z
 .refine .inr ⟨j,y,?_,w,e⟩;rw[List.getElem?_set]at h;by_cases c:i=j
  .rw[Ac c]at h;split at h
   .rw[<- Ab4 h,r]at w;cases w
   .cases h
  .rw[Ab c]at h;exact h
def slot (m:Bool)(d:PyData):Sl:=match m with | true=>.val d | false=>.bor d
theorem Env.set (I:Env K S B H σ ρ o)(i:Nat)(r:Rep K (vw m (F1 ρ o S) H) v d):Env K S B H (σ.set i (some v)) (ρ.set i (slot m d)) o:=by
 have U:(slot m d).os=false:=by cases m <;> rfl
 have nd:∀{x:Sl},x.os=true->x≠slot m d:=λ{x} h e=>by rw[e,U]at h;cases h
 have at_:∀{j:Nat} {x:Sl},x≠slot m d->(ρ.set i (slot m d))[j]? = some x->i≠j/\ρ[j]? = some x:=λ{j x} w h=>by
  rw[List.getElem?_set]at h;by_cases c:i=j
  .rw[Ac c]at h;split at h
   .exact absurd (Ab4 h).symm w
   .cases h
  .rw[Ab c]at h;exact⟨c,h⟩
 have g:Same (hid (F1 ρ o S) H) (hid (F1 (ρ.set i (slot m d)) o S) H):=K3 (L2.Same.rf _) λb z _=>bD0 U z
 refine⟨by simp[I.len],I.base,I.sl,λj x h w=>I.new j x (at_ (nd w) h).2 w,λj k x y h J w X=>I.inj j k x y (at_ (nd w) h).2 (at_ (nd X) J).2 w X,λj ds h=>?_,λj Y h=>?_,λj Y h=>?_,λj t h=>?_⟩
 .obtain⟨c,h⟩:=at_ (nd rfl) h;obtain⟨p,M,a,xs,b,N⟩:=I.own j ds h;exact⟨p,M,by rw[Ad0 c];exact a,xs,b,N.mono g⟩
 .by_cases c:i=j
  .subst c;have s:i<ρ.length:=by
    have:=(Ab0.mp h).1
    simpa using this
   rw[Ai (by simpa using s)]at h
   cases m with
   | false=>simp[slot]at h
   | true=>
    simp[slot]at h;subst h
    exact⟨v,Ai (by rw[I.len];exact s),r.mono g⟩
  .rw[Ad0 c]at h;obtain⟨u,a,b⟩:=I.val j Y h;exact⟨u,by rw[Ad0 c];exact a,b.mono g⟩
 .by_cases c:i=j
  .subst c;have s:i<ρ.length:=by
    have:=(Ab0.mp h).1
    simpa using this
   rw[Ai (by simpa using s)]at h
   cases m with
   | true=>simp[slot]at h
   | false=>
    simp[slot]at h;subst h
    exact⟨v,Ai (by rw[I.len];exact s),r⟩
  .rw[Ad0 c]at h;obtain⟨u,a,b⟩:=I.bor j Y h;exact⟨u,by rw[Ad0 c];exact a,b⟩
 .obtain⟨c,h⟩:=at_ (nd rfl) h;obtain⟨n,u,a,b⟩:=I.tr j t h;exact⟨n,u,by rw[Ad0 c];exact a,b.mono g (L2.Same.rf _)⟩
theorem dV8:(slot m d).os=false:=by cases m <;> rfl
theorem F8:G K m (M8 i) d ρ (ρ.set i (slot m d)):=⟨λo S b z=>bD0 dV8 z,λS B σ H o I v r Q q=>q _ (I.set i r)⟩
theorem bY3:Gs K m dC0 [] ρ ρ:=⟨λ_ _ _ z=>z,λS B σ H o I vs r Q q=>by cases r;exact⟨rfl,q σ I⟩⟩
theorem eN7 (h:∀(o:Nat->AL) (S:Addr->Prop) (b:Addr),F1 ρ' o S b->F1 ρ o S b):Same (vw m (F1 ρ o S) H) (vw m (F1 ρ' o S) H):=by
 cases m with
 | false=>exact L2.Same.rf _
 | true=>exact K3 (L2.Same.rf _) λb z _=>h o S b z
theorem t4 (h:G K m g d ρ ρ1)(h':Gs K m gs ds ρ1 ρ'):Gs K m (bQ7 g gs) (d::ds) ρ ρ':=⟨λo S b z=>h.1 o S b (h'.1 o S b z),λS B σ H o I vs r Q q=>by
 cases r with
 | cons a b=>exact⟨_,_,rfl,h.2 S B σ H o I _ a _ λw e=>h'.2 S B w H o e _ (b.mono (eN7 h.1)) _ q⟩⟩
theorem cW3 (h:Gs K m gs ds ρ ρ')(e:ds.length=n:=by rfl):G K m (dY2 K n gs) (.tuple ds) ρ ρ':=⟨h.1,λS B σ H o I v r Q q=>by
 cases r with
 | tup s r=>exact⟨_,_,rfl,G8 aJ1 s,by rw[r.length];exact e,h.2 S B σ H o I _ r _ q⟩⟩
theorem A8 {t u:TS}{R:AE}(h:W K t ρ {R with nx:=λρ'=>W K u ρ' R}):W K (cC0 t u) ρ R:=λS B D σ H o I s=>
 h S B {D with nx:=u D} σ H o I ⟨λρ' Y e j r w=>w S B D Y e j r s,s.rt,s.rl,s.bk,s.ct⟩
theorem E2 (h:R.nx ρ):W K bW9 ρ R:=λS B D σ H o I s=>s.nx ρ σ H o I h
theorem dS6 (h:E K m t ρ d)(j:G K m g d ρ ρ')(Y:R.nx ρ'):W K (u8 t g) ρ R:=λS B D σ H o I s=>
 h S B σ H o I _ λv e X r=>j.2 S B σ e o (I.grow X) v r _ λU w=>s.nx _ U e o w Y
theorem E5 (h:E K true t ρ d)(e:R.nx (ρ.set i (.val d))):W K (u8 t (M8 i)) ρ R:=dS6 (ρ' := ρ.set i (.val d)) h F8 e
theorem eL3 (h:E K m t ρ d)(w:R.nx ρ):W K (aE0 t) ρ R:=λS B D σ H o I s=>h S B σ H o I _ λv e j r=>s.nx _ σ e o (I.grow j) w
theorem E9 (h:E K true t ρ d)(w:R.rt d):W K (bZ1 t) ρ R:=λS B D σ H o I s=>
 h S B σ H o I _ λv e j r=>s.rt v d e (L2.Same.tr I.base j) (r.mono (K3 (L2.Same.rf _) λb z _=>.inl z)) w
theorem bF3 (h:EF K t ρ ds)(j:R.rl ds):W K (bZ1 t) ρ R:=λS B D σ H o I s=>
 h S B σ H o I _ λp xs w Y n e r=>s.rl p xs ds w (L2.Same.tr I.base Y) (p4 I.base n) e (r.mono (K3 (L2.Same.rf _) λb z _=>z.imp .inl id)) j
theorem dH7 (h:ρ[i]? = some (.own ds))(w:R.rl ds):W K (bZ1 (C7 i)) ρ R:=λS B D σ H o I s=>by
 obtain⟨p,hp,a,xs,b,c⟩:=I.own i ds h;exact⟨_,a,s.rl _ xs ds H I.base (I.new i _ h rfl _ (by rw[hp];simp)) b (c.mono (K3 (L2.Same.rf _) λb z _=>z.elim .inl λe=>.inr ⟨i,_,h,rfl,by rw[hp,e];simp⟩)) w⟩
theorem K9 {c:TT}{t u:TS}{b:Bool}{R:AE}(h:T K c ρ b)(h1:b=true->W K t ρ R)(r:b=false->W K u ρ R):W K (bN3 c t u) ρ R:=λS B D σ H o I s=>h S B σ H o I _ λe w=>by
 cases b with
 | true=>exact h1 rfl S B D σ e o (I.grow w) s
 | false=>exact r rfl S B D σ e o (I.grow w) s
theorem W.weak {t:TS}{R R':AE}(h:W K t ρ R)(h1:∀ρ,R.nx ρ->R'.nx ρ)(J:∀d,R.rt d->R'.rt d)(M:∀d,R.rl d->R'.rl d)(N:∀ρ,R.bk ρ->R'.bk ρ)(Q:∀ρ,R.ct ρ->R'.ct ρ):W K t ρ R':=λS B D σ H o I s=>
 h S B D σ H o I ⟨λX U r Y j w=>s.nx X U r Y j (h1 _ w),λv d r a b c=>s.rt v d r a b (J _ c),λp xs ds r a b c e w=>s.rl p xs ds r a b c e (M _ w),λX U r Y j w=>s.bk X U r Y j (N _ w),λX U r Y j w=>s.ct X U r Y j (Q _ w)⟩
def cC1 (o:Nat->AL)(i:Nat)(L:AL)(j:Nat):AL:=if j=i then L else o j
theorem i8:cC1 o i L i=L:=Ac rfl
theorem Z9 (h:i≠j):cC1 o i L j=o j:=Ab λz=>h z.symm
def Holds (K:Frag)(Z H:Hp)(v:V)(x:Sl)(L:AL):Prop:=
 (∃ds p xs,x=.own ds/\L=[p]/\v=.ref p/\H p=some (.lst xs)/\Reps K Z xs ds)\/∃t,x=.tr t/\L.Nodup/\Dp K Z H v t L
theorem Holds.os {Z H:Hp}{v:V}{x:Sl}{L:AL}(h:Holds K Z H v x L):x.os=true:=by
 rcases h with⟨ds,p,xs,rfl,_⟩ | ⟨t,rfl,_⟩ <;> rfl
def dA1 (ρ:List Sl)(o:Nat->AL)(i:Nat)(b:Addr):Prop:=∃y,ρ[i]? = some y/\y.os=true/\b∈o i
theorem Env.put (I:Env K S B H σ ρ o)(i:Nat)(hi:i<ρ.length)(D:Addr->Prop)(hD:∀b,D b->dA1 ρ o i b)
  (P:∀b y,H b=some y->¬D b->H' b=some y) (hL:∀b∈L,dA1 ρ o i b\/H b=none) (hx:Holds K (hid (λb=>F1 ρ o S b\/b∈L) H') H' v x L)
  (nb:(∀b,¬D b)\/∀(j:Nat) (d:PyData),ρ[j]?≠some (Sl.bor d)):Env K S B H' (σ.set i (some v)) (ρ.set i x) (cC1 o i L):=by
 have hos:=hx.os
 have at_:∀{j:Nat} {y:Sl},i≠j->(ρ.set i x)[j]? = some y->ρ[j]? = some y:=λ{j y} c h=>by rw[Ad0 c]at h;exact h
 have X:(ρ.set i x)[i]? = some x:=Ai hi
 have F:∀b,F1 (ρ.set i x) (cC1 o i L) S b->F1 ρ o S b\/b∈L:=λb z=>by
  rcases z with z | ⟨j,y,h,Y,e'⟩
  .exact .inl (.inl z)
  .by_cases c:i=j
   .subst c;rw[i8]at e';exact .inr e'
   .rw[Z9 c]at e';exact .inl (.inr ⟨j,y,at_ c h,Y,e'⟩)
 have N:∀b,dA1 ρ o i b->F1 ρ o S b:=λb ⟨y,h1,U,J⟩=>.inr ⟨i,y,h1,U,J⟩
 have g:Same (hid (F1 ρ o S) H) (hid (F1 (ρ.set i x) (cC1 o i L) S) H'):=λb y q=>by
  obtain⟨a,q⟩:=hid_some.mp q;refine hid_some.mpr ⟨λz=>?_,P b y q λz=>a (N b (hD b z))⟩
  rcases F b z with z | z
  .exact a z
  .rcases hL b z with z | z
   .exact a (N b z)
   .rw[z]at q;cases q
 have ht:∀a ys,Rd H a (.tup ys)->Rd H' a (.tup ys):=λa ys r=>by
  have n:¬D a:=λz=>by
   obtain⟨zs,e⟩:=I.lists a (N a (hD a z));rcases r with r | ⟨o,r⟩ <;> rw[e]at r <;> replace r:=Ab4 r
   .exact HM.nt r
   .exact HM.nf r
  rcases r with r | ⟨o,r⟩
  .exact .inl (P _ _ r n)
  .exact .inr ⟨o,P _ _ r n⟩
 have far:∀{j:Nat} {y:Sl},i≠j->ρ[j]? = some y->y.os=true->∀b∈o j,¬D b:=λ{j y} c h Y b s z=>by
  obtain⟨w,h1,U,J⟩:=hD b z;exact c (I.inj i j w y h1 h U Y b J s)
 have kept:∀{j:Nat} {y:Sl},i≠j->ρ[j]? = some y->y.os=true->∀b∈o j,H' b=H b:=λ{j y} c h Y b s=>by
  obtain⟨zs,e⟩:=I.lists b (.inr ⟨j,y,h,Y,s⟩);rw[e];exact P _ _ e (far c h Y b s)
 have Q:∀{j:Nat} {y:Sl},i≠j->ρ[j]? = some y->y.os=true->∀b∈o j,b∉L:=λ{j y} c h Y b s z=>by
  rcases hL b z with⟨w,h1,U,J⟩ | z
  .exact c (I.inj i j w y h1 h U Y b J s)
  .obtain⟨zs,e⟩:=I.lists b (.inr ⟨j,y,h,Y,s⟩);rw[z]at e;cases e
 have base:Same B H':=λb y q=>P b y (I.base b y q) λz=>by
  obtain⟨w,h1,U,J⟩:=hD b z;rw[I.new i w h1 U b J]at q;cases q
 refine⟨by simp[I.len],base,I.sl,λj y h Y b s=>?_,λj k y z h h' Y hz b s M=>?_,λj es h=>?_,λj d' h=>?_,λj d' h=>?_,λj t h=>?_⟩
 .by_cases c:i=j
  .subst c;rw[i8]at s;rcases hL b s with⟨w,h1,U,J⟩ | z
   .exact I.new i w h1 U b J
   .exact p4 I.base z
  .rw[Z9 c]at s;exact I.new j y (at_ c h) Y b s
 .by_cases c:i=j
  .subst c;by_cases R:i=k
   .exact R
   .rw[i8]at s;rw[Z9 R]at M;exact absurd s (Q R (at_ R h') hz b M)
  .by_cases R:i=k
   .subst R;rw[i8]at M;rw[Z9 c]at s;exact absurd M (Q c (at_ c h) Y b s)
   .rw[Z9 c]at s;rw[Z9 R]at M;exact I.inj j k y z (at_ c h) (at_ R h') Y hz b s M
 .by_cases c:i=j
  .subst c;rw[X]at h;cases h;rw[i8];rcases hx with⟨ds,p,xs,e,U,J,h4,h5⟩ | ⟨t,e,_⟩
   .cases e
    exact⟨p,U,by rw[Ai (by rw[I.len];exact hi),J],xs,h4,h5.mono (K3 (L2.Same.rf _) λb z _=>F b z)⟩
   .cases e
  .rw[Z9 c];obtain⟨p,o',a,ys,b,r'⟩:=I.own j es (at_ c h);exact⟨p,o',by rw[Ad0 c];exact a,ys,by rw[kept c (at_ c h) rfl p (by rw[o'];simp)];exact b,r'.mono g⟩
 .by_cases c:i=j
  .subst c;rw[X]at h;cases h;cases hos
  .obtain⟨u,a,b⟩:=I.val j d' (at_ c h);exact⟨u,by rw[Ad0 c];exact a,b.mono g⟩
 .by_cases c:i=j
  .subst c;rw[X]at h;cases h;cases hos
  .rcases nb with nb | nb
   .obtain⟨u,a,b⟩:=I.bor j d' (at_ c h);exact⟨u,by rw[Ad0 c];exact a,b.mono λb y q=>P b y q (nb b)⟩
   .exact absurd (at_ c h) (nb j d')
 .by_cases c:i=j
  .subst c;rw[X]at h;cases h;rw[i8];rcases hx with⟨ds,p,xs,e,_⟩ | ⟨t',e,U,J⟩
   .cases e
   .cases e
    exact⟨U,v,Ai (by rw[I.len];exact hi),J.mono (K3 (L2.Same.rf _) λb z _=>F b z) (L2.Same.rf _)⟩
  .rw[Z9 c];obtain⟨n,u,a,b⟩:=I.tr j t (at_ c h);exact⟨n,u,by rw[Ad0 c];exact a,aP1 g ht t (kept c (at_ c h) rfl) b⟩
theorem Env.setF (I:Env K S B H σ ρ o)(i:Nat)(s:Same H H')(n:H p=none)(e:H' p=some (.lst xs))(r:Reps K (hid (λb=>F1 ρ o S b\/b=p) H') xs ds)(hi:i<ρ.length) :
  Env K S B H' (σ.set i (some (.ref p))) (ρ.set i (.own ds)) (cC1 o i [p]):=
 I.put i hi (λ_=>False) (λ_ z=>z.elim) (λb y q _=>s b y q) (λb z=>.inr (by rw[Ad8.mp z];exact n)) (.inl ⟨ds,p,xs,rfl,rfl,rfl,e,r.mono (K3 (L2.Same.rf _) λb z _=>z.imp id λz=>Ad8.mp z)⟩) (.inl λ_ z=>z)
theorem bL5 {α:Type}{l:List α}{i:Nat}{a:α}(h:l[i]? = some a):l.set i a=l:=by
 obtain⟨h1,e⟩:=Ab0.mp h;rw[<- e];exact List.set_getElem_self h1
theorem N2 (h:EF K t ρ ds)(j:R.nx (ρ.set i (.own ds)))(hi:i<ρ.length:=by first | decide | (simp;done) | (simp[LV.sl0];done)):W K (u8 t (M8 i)) ρ R:=λS B D σ H o I s=>
 h S B σ H o I _ λp xs w Y n e r=>s.nx _ _ w _ (I.setF i Y n e r hi) j
theorem Env.upd (I:Env K S B H σ ρ o)(h:ρ[i]? = some (.own ds))(hp:o i=[p])(r:Reps K (hid (F1 ρ o S) H) xs es)(nb:∀(j:Nat) (d:PyData),ρ[j]?≠some (Sl.bor d)) :
  Env K S B (upd H p (.lst xs)) σ (ρ.set i (.own es)) (cC1 o i [p]):=by
 have hi:i<ρ.length:=(Ab0.mp h).1
 obtain⟨X,e,a,U,b,c⟩:=I.own i ds h;rw[hp]at e;cases e;have w:dA1 ρ o i p:=⟨_,h,rfl,by rw[hp];simp⟩
 have os:F1 ρ o S p:=.inr ⟨i,_,h,rfl,by rw[hp];simp⟩
 have:=I.put (H':=L2.upd H p (.lst xs)) (v:=.ref p) (x:=.own es) (L:=[p]) i hi (λb=>b=p) (λb z=>by rw[z];exact w) (λb y q z=>by rw[B6 z];exact q) (λb z=>.inl (by rw[Ad8.mp z];exact w))
  (.inl ⟨es,p,xs,rfl,rfl,rfl,C4,r.mono λb y q=>by
   obtain⟨s,Y⟩:=hid_some.mp q;refine hid_some.mpr ⟨λz=>s (z.elim id λz=>by rw[Ad8.mp z];exact os),?_⟩
   rw[B6 (λz=>s (by rw[z];exact os))];exact Y⟩) (.inr nb)
 rw[bL5 a]at this;exact this
def i7:List Sl->Bool
 | []=>true
 | .bor _::_=>false
 | _::r=>i7 r
theorem O8:∀{ρ:List Sl},i7 ρ=true->∀(j:Nat) (d:PyData),ρ[j]?≠some (Sl.bor d)
 | [],_,j,d=>by simp
 | .bor _::_,h,_,_=>by cases h
 | .no::r,h,0,d=>by simp
 | .no::r,h,j+1,d=>by simpa using O8 (ρ:=r) h j d
 | .val _::r,h,0,d=>by simp
 | .val _::r,h,j+1,d=>by simpa using O8 (ρ:=r) h j d
 | .own _::r,h,0,d=>by simp
 | .own _::r,h,j+1,d=>by simpa using O8 (ρ:=r) h j d
 | .tr _::r,h,0,d=>by simp
 | .tr _::r,h,j+1,d=>by simpa using O8 (ρ:=r) h j d
theorem V2 (hi:ρ[i]? = some (.own ds))(h:E K true t ρ d)(w:ds.length<sizeLine)(j:R.nx (ρ.set i (.own (ds++[d]))))(nb:i7 ρ=true:=by rfl) :
  W K (aE0 (tBM K "list" bA4 (C7 i) (E7 t R6))) ρ R:=λS B D σ H o I s=>by
 obtain⟨p,hp,a,xs,b,c⟩:=I.own i ds hi;refine⟨_,a,.inl ⟨rfl,xs,SqL.of b⟩,?_⟩;refine h S B σ H o I _ λv Y e r=>?_
 refine⟨_,xs,v,rfl,rfl,e _ _ b,by rw[c.length];exact w,?_⟩
 exact s.nx _ σ _ _ ((I.grow e).upd hi hp ((c.mono (L7 e)).append (.cons r .nil)) (O8 nb)) j
theorem cB2 (hi:ρ[i]? = some (.own ds))(hp:o i=[p]):Same (hid (F1 ρ o S) H) (hid (F1 (ρ.set i (.own es)) (cC1 o i [p]) S) (L2.upd H p (.lst xs))):=λY x q=>by
 obtain⟨r,s⟩:=hid_some.mp q;refine hid_some.mpr ⟨λz=>r ?_,?_⟩
 .rcases z with z | ⟨k,y,w,j,e'⟩
  .exact .inl z
  .by_cases e:i=k
   .subst e;rw[i8,<- hp]at e';exact .inr ⟨i,_,hi,rfl,e'⟩
   .rw[Ad0 e]at w;rw[Z9 e]at e';exact .inr ⟨k,y,w,j,e'⟩
 .rw[B6 (λz=>r (.inr ⟨i,_,hi,rfl,by rw[hp,z];simp⟩))];exact s
theorem eQ4 (hi:ρ[i]? = some (.own (ds++[d])))(X:R.nx ((ρ.set i (.own ds)).set j (.val d)))(nb:i7 ρ=true:=by rfl) :
  W K (u8 (eJ5 K "list" eI0 (C7 i)) (M8 j)) ρ R:=λS B D σ H o I s=>by
 obtain⟨p,hp,a,xs,b,c⟩:=I.own i _ hi;have Y:=c.length;obtain⟨y,h1,r⟩:=c.get' (i:=ds.length) (d:=d) (by simp)
 refine⟨_,a,.inl ⟨rfl,xs,SqL.of b⟩,_,xs,y,rfl,rfl,b,?_,?_⟩
 .rw[Y];simpa using h1
 .have e:=c.dropLast
  rw[List.dropLast_concat]at e;have w:=I.upd hi hp e (O8 nb);refine s.nx _ _ _ _ (Env.set (m:=true) w j (r.mono ?_)) X;exact cB2 hi hp
theorem Y5 {wi:TI}{g:TG}{tb:TS}{R:AE}(hi:I K true wi ρ ds)(P:Nat->List Sl->Prop)(h0:P 0 ρ)
  (turn:∀i d ρ',ds[i]? = some d->P i ρ'->∃ρ'',G K true g d ρ' ρ''/\W K tb ρ'' {R with nx:=P (i+1),ct:=P (i+1),bk:=R.nx}) (hn:∀ρ',P ds.length ρ'->R.nx ρ'):W K (eT0 wi g tb) ρ R:=λS B D σ H o I0 s=>
 hi S B σ H o I0 _ λJ H1 s1 wk=>by
  obtain⟨I1,X⟩:=(I0.grow s1).rebase;generalize hB:hid (dS0 ρ o) H1=B' at I1 X;have sz:Same (hid (F1 ρ o S) H1) B':=λb x q=>by
   obtain⟨q1,q2⟩:=hid_some.mp q;rw[<- hB];exact hid_some.mpr ⟨λz=>q1 (.inr z),q2⟩
  refine⟨λi m σ' H'=>i<=ds.length/\m=ds.length-i/\∃ρ' M,Env K S B' H' σ' ρ' M/\P i ρ',⟨_,Co _,rfl,ρ,o,I1,h0⟩,?_⟩
  rintro i k σ' H' ⟨hl,rfl,ρ',M,r,p⟩;have zH:=L2.Same.tr sz r.base;by_cases c:i=ds.length
  .subst c;exact .inl ⟨wk.stop _ _ zH (Aa7 _),s.nx ρ' σ' H' M ⟨r.len,L2.Same.tr X r.base,λb z=>(I0.sl b z),λi ds z hz b Q=>p4 X (r.new i ds z hz b Q),r.inj,r.own,r.val,r.bor,r.tr⟩ (hn ρ' p)⟩
  .have F:i<ds.length:=by lia
   have hd:ds[i]? = some ds[i]:=Aa2 F
   obtain⟨ρ'',hg,Q⟩:=turn i ds[i] ρ' hd p;refine .inr ⟨wk.go _ _ _ zH hd,λσ2 H2=>∃ρ2 o2,Env K S B' H2 σ2 ρ2 o2/\P (i+1) ρ2,λσ2 H2 ⟨ρ2,o2,I2,p2⟩=>⟨_,by lia,F,rfl,ρ2,o2,I2,p2⟩,λx N hy=>?_⟩
   obtain⟨s2,hx⟩:=wk.yld _ _ _ _ _ zH hd hy;have rx:=hx (F1 ρ' M S) λb z=>by
    obtain⟨ys,y⟩:=r.lists b z;refine⟨?_,by rw[y];simp⟩
    rcases z with z | ⟨j,es,h',hy,e'⟩
    .unfold vw hid;exact Ac (.inl z)
    .exact p4 sz (r.new j es h' hy b e')
   refine hg.2 S B' σ' N M (r.grow s2) x rx _ λσ2 I2=>Q S B' _ σ2 N M I2 ⟨λρ3 σ3 U o3 Y w=>⟨ρ3,o3,Y,w⟩,λv d U a b w=>s.rt v d U (L2.Same.tr X a) b w,λp xs es U a b c e w=>s.rl p xs es U (L2.Same.tr X a) (p4 X b) c e w,
    λρ3 σ3 U o3 Y w=>s.nx ρ3 σ3 U o3 ⟨Y.len,L2.Same.tr X Y.base,λb z=>(I0.sl b z),λi ds z hz b Q=>p4 X (Y.new i ds z hz b Q),Y.inj,Y.own,Y.val,Y.bor,Y.tr⟩ w,λρ3 σ3 U o3 Y w=>⟨ρ3,o3,Y,w⟩⟩
theorem cC6 {c:TT}{tb:TS}{R:AE}(P:Nat->List Sl->Prop)(h0:∃k,P k ρ)
  (j:∀k ρ',P k ρ'->∃b,T K c ρ' b/\if b=true then W K tb ρ' {R with nx:=λρ2=>∃k',k'<k/\P k' ρ2,ct:=λρ2=>∃k',k'<k/\P k' ρ2,bk:=R.nx} else R.nx ρ'):W K (dT5 c tb) ρ R:=λS B D σ H o I0 s=>by
 obtain⟨k0,p0⟩:=h0;refine⟨λk Y U=>∃ρ' r,Env K S B U Y ρ' r/\P k ρ',⟨k0,ρ,o,I0,p0⟩,?_⟩
 rintro k Y U ⟨ρ',r,J,p⟩;obtain⟨b,hc,X⟩:=j k ρ' p;refine hc S B Y U r J _ λF s1=>?_
 cases b with
 | true=>
  rw[Ac rfl]at X ⊢;refine⟨λσ2 H2=>∃k',k'<k/\∃ρ2 o2,Env K S B H2 σ2 ρ2 o2/\P k' ρ2,λσ2 H2 ⟨k',e,z⟩=>⟨k',e,z⟩,?_⟩
  exact X S B _ Y F r (J.grow s1) ⟨λQ σ3 H3 N M ⟨k',e,w⟩=>⟨k',e,Q,N,M,w⟩,s.rt,s.rl,s.nx,λQ σ3 H3 N M ⟨k',e,w⟩=>⟨k',e,Q,N,M,w⟩⟩
 | false=>
  rw[Ab Ah]at X ⊢;exact s.nx ρ' Y F r (J.grow s1) X
end
section
def cap:Sl->Sl
 | .own ds=>.bor (.list ds)
 | .tr t=>.bor t.data
 | x=>x
def slC (ρ:List Sl)(n:Nat)(is:AC):List Sl:=List.replicate n .no++is.map λi=>cap ((ρ[i]?).getD .no)
theorem cD9 (h:(slC ρ n is)[j]? = some x)(w:x≠.no):n<=j/\∃i y,is[j-n]? = some i/\ρ[i]? = some y/\cap y=x:=by
 unfold slC at h;by_cases c:j<n
 .rw[Ca (by simpa using c),Ck,Ac c]at h
  exact absurd (Ab4 h).symm w
 .rw[Bw (by simpa using c),Cw,Aa9]at h
  refine⟨by lia,?_⟩
  cases e:is[j-n]? with
  | none=>rw[e]at h;cases h
  | some i=>
   rw[e]at h;have h:cap ((ρ[i]?).getD .no)=x:=Ab4 h;cases e':ρ[i]? with
   | none=>rw[e']at h;exact absurd h.symm w
   | some y=>rw[e']at h;exact⟨i,y,rfl,e',h⟩
theorem dU4 {n:Nat}{is:AC}{j:Nat}{x:Sl}(h:(slC ρ n is)[j]? = some x):x.os=false:=by
 cases x with
 | own ds=>
  obtain⟨_,i,y,_,_,e⟩:=cD9 h (by simp)
  cases y <;> simp[cap]at e
 | tr t=>
  obtain⟨_,i,y,_,_,e⟩:=cD9 h (by simp)
  cases y <;> simp[cap]at e
 | _=>rfl
theorem bF2 {n:Nat}{is:AC}{j:Nat}{x:Sl}{P:Prop}(h:(slC ρ n is)[j]? = some x)(e:x.os=true):P:=by rw[dU4 h]at e;cases e
theorem Env.comp (I:Env K S B H σ ρ o)(n:Nat)(is:AC):Env K (F1 ρ o S) H H (stC n is σ) (slC ρ n is) o:=by
 have Y:∀(j:Nat) (i:Nat) v,n<=j->is[j-n]? = some i->σ[i]? = some v->(stC n is σ)[j]? = some v:=λj i v w hi J=>by
  unfold stC;rw[Bw (by simpa using w),Cw,Aa9,hi]
  simp[J]
 have g:Same (hid (F1 ρ o S) H) (hid (F1 (slC ρ n is) o (F1 ρ o S)) H):=K3 (L2.Same.rf _) λb z _=>by
  rcases z with z | ⟨j,s,h,r,_⟩
  .exact z
  .exact bF2 h r
 refine⟨by simp[stC,slC],L2.Same.rf _,I.lists,λj s h X=>bF2 h X,λj k s fs h _ X=>bF2 h X,λj s h=>bF2 h rfl,λj d h=>?_,λj d h=>?_,λj t h=>bF2 h rfl⟩
 .obtain⟨w,i,y,hi,r,e⟩:=cD9 h (by simp)
  cases y with
  | val U=>
   cases e
   obtain⟨v,a,b⟩:=I.val i d r;exact⟨v,Y j i _ w hi a,b.mono g⟩
  | _=>simp[cap]at e
 .obtain⟨w,i,y,hi,r,e⟩:=cD9 h (by simp)
  cases y with
  | bor U=>
   cases e
   obtain⟨v,a,b⟩:=I.bor i d r;exact⟨v,Y j i _ w hi a,b⟩
  | own s=>
   cases e
   obtain⟨p,hp,a,xs,b,c⟩:=I.own i s r;exact⟨_,Y j i _ w hi a,.lst (SqL.of b) (c.mono X1)⟩
  | tr t=>
   cases e
   obtain⟨_,v,a,b⟩:=I.tr i t r;exact⟨_,Y j i _ w hi a,cR1 X1 (λ_ _ z=>z) X1 t (λ_ _=>rfl) b⟩
  | _=>simp[cap]at e
def cQ3 (K:Frag)(m:Bool)(ρ:List Sl)(g:TG)(tt:TT)(te:TE)(d:PyData)(r:Option PyData):Prop:=
 ∃ρ',G K m g d ρ ρ'/\match r with
  | none=>T K tt ρ' false
  | some y=>T K tt ρ' true/\E K true te ρ' y
theorem U3 (f:PyData->Option PyData)(hi:I K m wi ρ ds)(hl:ds.length<sizeLine)(U:∀d∈ds,cQ3 K m (slC ρ n is) g tt te d (f d)):EF K (dK5 wi n is g tt te) ρ (ds.filterMap f):=λS B σ H o I0 Q q=>
 hi S B σ H o I0 _ λJ s s1 wk=>by
  have IC:=(I0.grow s1).comp n is
  generalize hS:F1 ρ o S=S' at IC wk q;have lists:∀b,S' b->∃u:HM,s b=some u.ho:=by rw[<- hS];exact(I0.grow s1).lists
  refine⟨λi k ys F=>i<=ds.length/\k=ds.length-i/\Same s F/\ys.length<=i/\Reps K (hid S' F) ys ((ds.take i).filterMap f),⟨_,Co _,rfl,L2.Same.rf _,Aa7 _,by simpa using Reps.nil⟩,?_⟩
  rintro i k ys F ⟨hil,rfl,Y,hy,r⟩;refine⟨by lia,?_⟩
  have zH:Same (vw m S' s) F:=L2.Same.tr aJ1 Y
  by_cases c:i=ds.length
  .subst c;refine .inl ⟨wk.stop _ _ zH (Aa7 _),λD hD=>?_⟩
   rw[Dc]at r;exact q D ys _ (L2.Same.tr (L2.Same.tr s1 Y) (G0 hD)) (p4 (L2.Same.tr s1 Y) hD) C4 (bV6 (λb z=>by obtain⟨xs,e⟩:=lists b z;exact⟨xs,Y _ _ e⟩) hD r)
  .have w:i<ds.length:=by lia
   have hd:ds[i]? = some ds[i]:=Aa2 w
   have take:(ds.take (i+1)).filterMap f=(ds.take i).filterMap f++(f ds[i]).toList:=by
    rw[Br w,List.filterMap_append];cases P:f ds[i] <;> simp[An,P]
   obtain⟨ρ',hg,M⟩:=U ds[i] (Dl w);refine .inr ⟨wk.go _ _ _ zH hd,λx X hx=>?_⟩
   obtain⟨s3,hr⟩:=wk.yld _ _ _ _ _ zH hd hx;have I3:Env K S' s X (stC n is σ) (slC ρ n is) o:=IC.grow (L2.Same.tr Y s3);have eqS:∀b,F1 (slC ρ n is) o S' b->S' b:=λb z=>by
    rcases z with z | ⟨j,es,h,hy,_⟩
    .exact z
    .exact bF2 h hy
   have rx:Rep K (vw m (F1 (slC ρ n is) o S') X) x ds[i]:=by
    cases m with
    | false=>
     have:=hr (λ_=>False) λb z=>z.elim
     rw[dE4]at this;exact this
    | true=>
     refine hr _ λb z=>?_
     have z':=eqS b z
     obtain⟨xs,e⟩:=lists b z';exact⟨by unfold vw hid;exact Ac z',by rw[Y _ _ e];simp⟩
   refine hg.2 S' s _ X o I3 x rx _ λσ4 I4=>?_
   cases P:f ds[i] with
   | none=>
    rw[P]at M take;refine M S' s σ4 X o I4 _ λH5 R=>?_
    rw[Ab Ah];refine⟨_,by lia,w,rfl,L2.Same.tr Y (L2.Same.tr s3 R),by lia,?_⟩
    rw[take];simpa using r.mono (L7 (L2.Same.tr s3 R))
   | some y=>
    rw[P]at M take;refine M.1 S' s σ4 X o I4 _ λH5 R=>?_
    rw[Ac rfl];refine M.2 S' s σ4 H5 o (I4.grow R) _ λv H6 s6 rv=>?_
    have N:=L2.Same.tr s3 (L2.Same.tr R s6)
    refine⟨_,by lia,w,rfl,L2.Same.tr Y N,by simp;lia,?_⟩
    rw[take];refine(r.mono (L7 N)).append (.cons (rv.mono (K3 (L2.Same.rf _) λb z _=>.inl z)) .nil)
theorem aU4:T K cF6 ρ true:=λS B σ H o I Q q=>q H (L2.Same.rf _)
def sl0 (n:Nat)(ds:AF):List Sl:=ds.map .val++List.replicate (n-ds.length) .no
theorem env0 (M:∀b,S b->∃u:HM,H b=some u.ho)(r:Reps K (hid S H) vs ds):Env K S H H (L2.Y6 N vs) (sl0 N.length ds) (λ_=>[]):=by
 have Y:∀(j:Nat) (x:Sl),(sl0 N.length ds)[j]? = some x->x=.no\/∃d,ds[j]? = some d/\x=.val d:=λj x h=>by
  unfold sl0 at h;by_cases c:j<ds.length
  .rw[Ca (by simpa using c),Aa9,Aa2 c]at h
   exact .inr ⟨_,Aa2 c,(Ab4 h).symm⟩
  .rw[Bw (by simpa using c),Ck]at h
   split at h
   .exact .inl (Ab4 h).symm
   .cases h
 have w:∀{P:Prop} (j:Nat) (x:Sl),(sl0 N.length ds)[j]? = some x->x.os=true->P:=λj x h X=>by
  rcases Y j _ h with e | ⟨d,_,e⟩ <;> rw[e]at X <;> cases X
 have g:Same (hid S H) (hid (F1 (sl0 N.length ds) (λ_=>[]) S) H):=K3 (L2.Same.rf _) λb z _=>by
  rcases z with z | ⟨j,s,h,R,_⟩
  .exact z
  .exact w j s h R
 refine⟨?_,L2.Same.rf _,M,λj s h X=>w j s h X,λj k s fs h _ X=>w j s h X,λj s h=>w j _ h rfl,λj d h=>?_,λj d h=>?_,λj s h=>w j _ h rfl⟩
 .unfold L2.Y6 sl0;simp[r.length]
 .rcases Y j _ h with e | ⟨U,J,e⟩
  .cases e
  .cases e
   obtain⟨v,a,b⟩:=r.get' J;refine⟨v,?_,b.mono g⟩;unfold L2.Y6
   have:=(Ab0.mp a).1
   rw[Ca (by simpa using this),Aa9,a];rfl
 .rcases Y j _ h with e | ⟨U,_,e⟩ <;> cases e
theorem M0 {t:TS}{N:AH}{vs:List V}{S:Addr->Prop}{H:Hp}{Q:VK}(Y:∀b,S b->∃u:HM,H b=some u.ho)(r:Reps K (hid S H) vs ds)(w:W K t (sl0 N.length ds) {nx:=λ_=>d=.none,rt:=λe=>e=d})
  (k:∀v H',Same H H'->Rep K (hid S H') v d->Q v H'):t {nx:=λ_ H'=>Q .non H',rt:=Q} (L2.Y6 N vs) H:=
 w S H _ _ H _ (env0 Y r) ⟨λJ M H' U j z=>k _ H' j.base (by rw[z];exact .non),λv e H' s X z=>k v H' s (by rw[<- z];exact X),λ_ _ _ _ _ _ _ _ z=>z.elim,λ_ _ _ _ _ z=>z.elim,λ_ _ _ _ _ z=>z.elim⟩
theorem aS3 {t:TS}{N:AH}{vs:List V}{S:Addr->Prop}{H:Hp}{Q:VK}(X:∀b,S b->∃u:HM,H b=some u.ho)(r:Reps K (hid S H) vs ds)(w:W K t (sl0 N.length ds) {nx:=λ_=>False,rl:=λe=>e=es})
  (k:∀p xs H',Same H H'->H p=none->H' p=some (.lst xs)->Reps K (hid (λb=>S b\/b=p) H') xs es->Q (.ref p) H'):t {nx:=λ_ H'=>Q .non H',rt:=Q} (L2.Y6 N vs) H:=
 w S H _ _ H _ (env0 X r) ⟨λM R H' J U z=>z.elim,λv e H' s j z=>z.elim,λp xs Y H' s n e j z=>k p xs H' s n e (by rw[<- z];exact j),λ_ _ _ _ _ z=>z.elim,λ_ _ _ _ _ z=>z.elim⟩
end
end LV
namespace L2
open PySem PySem.Spec PyProof.Rows
section
def CMulB (i j:Int):Prop:=i.natAbs<2^512/\j.natAbs<2^512
theorem cY6 (h:k.natAbs<2^512):Builtin.Int.intBits k<=2^20:=by
 unfold Builtin.Int.intBits;split
 .exact Co _
 .have:k.natAbs.log2<512:=by
   rcases Nat.eq_zero_or_pos k.natAbs with e | hp
   .rw[e];decide
   .exact(Nat.log2_lt (Nat.ne_of_gt hp)).mpr h
  lia
theorem CMulB.ok {i j:Int}(h:CMulB i j):IntMulOk i j:=.of_bits (cY6 h.1) (cY6 h.2)
theorem bD1:OpR X (binaryOp .Mult) (rI CMulB λi j=>.int (i*j)):=opI λ_ _ _ _ _ _ _ e q=>mul_int q e.ok
def cL0:List String:=["int", "bool", "str", "list", "tuple"]
def eL4 (K:Frag)(H:Hp)(T:String):V->Bool->Prop
 | .int _,b=>b=(T == "int")
 | .bl _,b=>b=(T == "int" || T == "bool")
 | .str _,b=>b=(T == "str")
 | .non,b=>b=false
 | .ref p,b=>(∃xs,SqL K H p xs/\b=(T == "list"))\/∃xs,SqT K H p xs/\b=(T == "tuple")
 | _,_=>False
theorem O2 (h:T∈cL0):typeOf (.type T)=pure (.type "type"):=by
 simp only[cL0,Aa1,Ac2,or_false]at h;rcases h with rfl | rfl | rfl | rfl | rfl
 .exact meta_int
 .exact meta_bool
 .exact meta_str
 .exact meta_list
 .exact meta_tuple
theorem bG3 (h:T∈cL0)(r:s.TypeIs x Tx)(e:isSubtype (.type Tx) (.type T)=pure true)(q:Q (.bool true) s) :
  wpAny (model P w) A (call (.builtin "isinstance") [x,.type T]) Q E s:=Az (isinstance_true (O2 h) e) ⟨r,q⟩
theorem dN9:m6 X (.builtin "isinstance") (λxs H Q=>∃x T b,xs=[x,.ty T]/\T∈cL0/\eL4 X.K H T x b/\Q (.bl b) H):=by
 intro R s σ H xs us Q I r h;obtain⟨x,T,b,rfl,w,J,q⟩:=h;cases r with
 | cons M F=>
  cases F with
  | cons B P=>
   cases P;cases B
   have U:EP X R σ Q (.bool b) s:=⟨.bl b,H,I,rfl,q⟩
   have Y:EP X R σ Q (.bool b) {s with toks:=s.toks+1}:=⟨.bl b,H,I.tok _,rfl,q⟩
   have j:=w
   simp only[cL0,Aa1,Ac2,or_false]at j;cases x with
   | int i=>
    obtain⟨t,rfl⟩:=M;cases J;rcases j with rfl | rfl | rfl | rfl | rfl
    .exact bG3 w (typeIs_int _ _ _) (by rw[As];kernel_rfl) U
    all_goals exact Az (isinstance_false_int (by decide) (O2 w) (by rw[As];kernel_rfl)) Y
   | bl k=>
    cases M
    cases J
    rcases j with rfl | rfl | rfl | rfl | rfl
    .exact bG3 w (PySem.typeIs_bool _ _) (by rw[As];kernel_rfl) U
    .exact bG3 w (PySem.typeIs_bool _ _) (by rw[As];kernel_rfl) U
    all_goals exact Az (isinstance_false_bool (by decide) (O2 w) (by rw[As];kernel_rfl)) Y
   | str z=>
    obtain⟨t,rfl⟩:=M;cases J;rcases j with rfl | rfl | rfl | rfl | rfl
    .exact Az (isinstance_false_str (by decide) (O2 w) (by rw[As];kernel_rfl)) Y
    .exact Az (isinstance_false_str (by decide) (O2 w) (by rw[As];kernel_rfl)) Y
    .exact bG3 w (typeIs_str _ _ _) (by rw[As];kernel_rfl) U
    all_goals exact Az (isinstance_false_str (by decide) (O2 w) (by rw[As];kernel_rfl)) Y
   | non=>
    cases M
    cases J
    rcases j with rfl | rfl | rfl | rfl | rfl
    all_goals exact Az (isinstance_false_none (by decide) (O2 w) (by rw[As];kernel_rfl)) Y
   | ref p=>
    cases M
    rcases J with⟨ys,N,rfl⟩ | ⟨ys,N,rfl⟩
    .obtain⟨its,rv,⟨o,n,e,c,_,_⟩,_⟩:=I.list N;rcases j with rfl | rfl | rfl | rfl | rfl
     .exact Az (isinstance_false_list (by decide) (O2 w) (by rw[As];kernel_rfl)) ⟨⟨o,e,c⟩,Y⟩
     .exact Az (isinstance_false_list (by decide) (O2 w) (by rw[As];kernel_rfl)) ⟨⟨o,e,c⟩,Y⟩
     .exact Az (isinstance_false_list (by decide) (O2 w) (by rw[As];kernel_rfl)) ⟨⟨o,e,c⟩,Y⟩
     .exact bG3 w (⟨o,e,c⟩:s.TypeIs (.ref p) _) (by rw[As];kernel_rfl) U
     .exact Az (isinstance_false_list (by decide) (O2 w) (by rw[As];kernel_rfl)) ⟨⟨o,e,c⟩,Y⟩
    .obtain⟨its,rv,⟨o,e,c,n,d⟩,_⟩:=I.tuple N;rcases j with rfl | rfl | rfl | rfl | rfl
     .exact Az (isinstance_false_tuple (by decide) (O2 w) (by rw[As];kernel_rfl)) ⟨⟨o,e,c⟩,Y⟩
     .exact Az (isinstance_false_tuple (by decide) (O2 w) (by rw[As];kernel_rfl)) ⟨⟨o,e,c⟩,Y⟩
     .exact Az (isinstance_false_tuple (by decide) (O2 w) (by rw[As];kernel_rfl)) ⟨⟨o,e,c⟩,Y⟩
     .exact Az (isinstance_false_tuple (by decide) (O2 w) (by rw[As];kernel_rfl)) ⟨⟨o,e,c⟩,Y⟩
     .exact bG3 w (⟨o,e,c⟩:s.TypeIs (.ref p) _) (by rw[As];kernel_rfl) U
   | _=>exact J.elim
end
theorem bW8 (w:Gl X x)(r:X.mg x=none)(s:bootBuiltins x=some (.type T))(j:x≠"__name__" := by decide)(e:(x==("__debug__" : Str))=false:=by decide):PE X (.Name x pos) (tC (.ty T)):=dU9 (v:=.ty T) w r s rfl j e
theorem bZ3:∀v (σ:St) H Q Q',(∀σ' H',Q σ' H'->Q' σ' H')->M8 i v σ H Q->M8 i v σ H Q':=λ_ _ _ _ _ h q=>h _ _ q
theorem bS9:∀v (σ:St) H Q Q',(∀σ' H',Q σ' H'->Q' σ' H')->dC0 v σ H Q->dC0 v σ H Q':=λ_ _ _ _ _ h q=>⟨q.1,h _ _ q.2⟩
theorem cS2 (a:∀v (σ:St) H Q Q',(∀σ' H',Q σ' H'->Q' σ' H')->t v σ H Q->t v σ H Q')(b:∀v (σ:St) H Q Q',(∀σ' H',Q σ' H'->Q' σ' H')->u v σ H Q->u v σ H Q') :
  ∀v (σ:St) H Q Q',(∀σ' H',Q σ' H'->Q' σ' H')->bQ7 t u v σ H Q->bQ7 t u v σ H Q':=λ_ _ _ _ _ h ⟨v,r,e,q⟩=>⟨v,r,e,a _ _ _ _ _ (λ_ _ z=>b _ _ _ _ _ h z) q⟩
theorem eY7 {K:Frag}{i j k n:Nat}(h:i<n)(h':j<n):bT0 n (dY2 K k (bQ7 (M8 i) (bQ7 (M8 j) dC0))):=
 eM9 (cZ1 bZ3 (cS2 bZ3 bS9) (T3 h) (cZ1 bZ3 bS9 (T3 h') eI9))
def AllP {α:Type}(p:α->Prop):List α->Prop
 | []=>True
 | a::l=>p a/\AllP p l
theorem AllP.mem:∀{l:List α},AllP p l->∀a∈l,p a
 | _::_,h,a,ha=>(Aa1.mp ha).elim (λe=>e▸h.1) λz=>AllP.mem h.2 a z
theorem w9:∀{l:List (Str×β)},l.lookup x=some v->(x,v)∈l
 | [],h=>by cases h
 | (y,u)::l,h=>by
  rw[List.lookup_cons]at h;by_cases e:x==y
  .rw[e]at h;have e':x=y:=eq_of_beq e;cases h;subst e';exact Al
  .have e1:(x==y)=false:=by simpa using e
   rw[e1]at h;exact Ad4 _ (w9 h)
theorem CScope.of (clos:closureFor scope X.env=pure cl)(kind:scope.kind=.function)
  (r:scope.names.all (λy=>y.2 != .cell&&(y.2 != .local||scope.names.lookup y.1==some .local))=true) (s:AllP (λp=>X.env.cells.lookup p.1=some p.2) cl)
  (Y:(relabel scope X.env).names.all (λy=>(y.2 != .cell&&y.2 != .free)||(cl.lookup y.1).isSome)=true) (U:N'=T++is.map λ(i:Nat)=>((X.N[i]?).getD Str.empty:Str))
  (J:is.all (λi=>decide (i<X.N.length))=true) (M:AllP (λi=>∃x,X.N[i]? = some x/\((relabel scope X.env).names.lookup x=some .cell\/(relabel scope X.env).names.lookup x=some .free)/\(X.env.kindOf x=some .cell\/X.env.kindOf x=some .free)) is):CScope X scope cl T is N' where
 clos:=clos
 cell:=λy w e=>by
  have:=Ac9.mp r y w
  rw[e]at this;simp at this
 kind:=kind
 names:=λy w e=>by
  have:=Ac9.mp r y w
  rw[e]at this;simp at this;exact this
 cap:=λx c h=>s.mem (x,c) (w9 h)
 has:=λx h=>by
  have j:∀k,(relabel scope X.env).names.lookup x=some k->k=.cell\/k=.free->∃c,cl.lookup x=some c:=λk e Q=>by
   have:=Ac9.mp Y (x,k) (w9 e)
   rcases Q with rfl | rfl <;> exact Option.isSome_iff_exists.mp this
  rcases h with h | h
  .exact j _ h (.inl rfl)
  .exact j _ h (.inr rfl)
 N:=U
 lt:=λi hi=>Aj (Ac9.mp J i hi)
 capt:=λi hi x e=>by
  obtain⟨y,e',h1,R⟩:=M.mem i hi;rw[e]at e';cases e';exact⟨h1,R⟩
section
theorem ixK (K:Frag)(h:X.K=K:=by rfl):IxR X (rIx K):=h▸F4
theorem aD7 (K:Frag)(h:X.K=K:=by rfl):m6 X (.builtin "len") (λxs H Q=>∃p ys,xs=[.ref p]/\(SqL K H p ys\/SqT K H p ys)/\Q (.int ys.length) H):=h▸P0
theorem dM3 (K:Frag)(h:X.K=K:=by rfl):m6 X (.builtin "isinstance") (λxs H Q=>∃x T b,xs=[x,.ty T]/\T∈cL0/\eL4 K H T x b/\Q (.bl b) H):=h▸dN9
theorem eR1 (K:Frag)(h:X.K=K:=by rfl):SlR X (eG9 K):=h▸cA5
theorem cR3 (K:Frag)(h:X.K=K:=by rfl):m6 X (.type "tuple") (λxs H Q=>∃p ys,xs=[.ref p]/\((SqL K H p ys/\∀l,H l=none->Q (.ref l) (upd H l (.tup ys)))\/(SqT K H p ys/\Q (.ref p) H))):=h▸V9
theorem bX8 (K:Frag)(h:X.K=K:=by rfl):m6 X (.type "list") (λxs H Q=>∃p ys,xs=[.ref p]/\(SqL K H p ys\/SqT K H p ys)/\∀l,H l=none->Q (.ref l) (upd H l (.lst ys))):=h▸bY2
end
end L2
namespace LV
open PySem L2
section
theorem l7 (e:E K false ta ρ (.int i))(w:E K false tb ρ (.int j)):E K m (tOp rEq ta tb) ρ (.bool (decide (i=j))):=
 cF9 e w λH Q q=>⟨rfl,by
  have:decide (V.int i=V.int j)=decide (i=j):=by simp
  rw[this];exact q _ λ_=>.bl _⟩
theorem aI3 (e:E K false ta ρ (.int i))(w:E K false tb ρ (.int j)):E K m (tOp rNe ta tb) ρ (.bool (!decide (i=j))):=
 cF9 e w λH Q q=>⟨rfl,by
  have:decide (V.int i=V.int j)=decide (i=j):=by simp
  rw[this];exact q _ λ_=>.bl _⟩
theorem bH4 (w:E K false ta ρ (.int i)):E K m (tUn (rU λi=>.int (-i)) ta) ρ (.int (-i)):=E.bor (E.imm (m:=false) λS B σ H o I Q q=>w S B σ H o I _ λv e j r=>by
 cases r
 exact⟨i,rfl,q _ e j (.int _)⟩)
theorem dU2 {r:List V->Hp->VK->Prop}{t:TA}(w:A K false t ρ ds)(j:∀(H:Hp) (vs:List V) (Q:VK),Reps K H vs ds->(∀v,(∀H,Rep K H v d)->Q v H)->r vs H Q):E K m (tCB r t) ρ d:=λS B σ H o I Q q=>
 w S B σ H o I _ λvs e Y rs=>j e vs Q rs λv s=>q v e Y (s _)
theorem M9 {t:TA}(e:A K false t ρ [d])(h:sq d=some ds:=by rfl):E K m (tCB (λxs H Q=>∃p ys,xs=[.ref p]/\(SqL K H p ys\/SqT K H p ys)/\Q (.int ys.length) H) t) ρ (.int ds.length):=dU2 e λH vs Q r q=>by
 cases r with
 | cons a b=>
  cases b
  cases a with
  | lst s r=>cases h;exact⟨_,_,rfl,.inl s,by rw[r.length];exact q _ λ_=>.int _⟩
  | tup s r=>cases h;exact⟨_,_,rfl,.inr s,by rw[r.length];exact q _ λ_=>.int _⟩
  | _=>cases h
def eO6 (T:String):PyData->Bool
 | .int _=>T == "int"
 | .bool _=>T == "int" || T == "bool"
 | .str _=>T == "str"
 | .list _=>T == "list"
 | .tuple _=>T == "tuple"
 | _=>false
def xNo:PyData->Bool
 | .dict _=>false
 | _=>true
theorem bT5 {T:String}(X:E K false ta ρ d)(Y:T∈cL0:=by decide)(w:xNo d=true:=by first | rfl | assumption):E K m (tCB (λxs H Q=>∃x T b,xs=[x,.ty T]/\T∈cL0/\eL4 K H T x b/\Q (.bl b) H) (E7 ta (E7 (tC (.ty T)) R6))) ρ (.bool (eO6 T d)):=E.bor (E.imm (m:=false) λS B σ H o I Q q=>X S B σ H o I _ λv j U r=>by
 refine⟨v,T,eO6 T d,rfl,Y,?_,q _ j U (.bl _)⟩;cases r with
 | lst s r=>exact .inl ⟨_,s,rfl⟩
 | tup s r=>exact .inr ⟨_,s,rfl⟩
 | exc e=>exact absurd w (by simp[xNo])
 | ptr=>exact absurd w (by simp[xNo])
 | adr=>exact absurd w (by simp[xNo])
 | ins _=>exact absurd w (by simp[xNo])
 | exd _ _ _=>exact absurd w (by simp[xNo])
 | dki _ _=>exact absurd w (by simp[xNo])
 | dic _ _ _=>exact absurd w (by simp[xNo])
 | _=>rfl)
theorem dT6 {r r':R2}{i j k:Int}{g g':Int->Int->Bool}(J:E K false ta ρ (.int i))(M:E K false tb ρ (.int j))(N:E K false tc ρ (.int k)):E K m (dE3 (rI0 λi j=>.bl (g i j)) (rI0 λi j=>.bl (g' i j)) ta tb tc) ρ (.bool (g i j&&g' j k)):=
 E.bor (E.imm (m:=false) λS B σ H o I Q q=>J S B σ H o I _ λv X e R=>M S B σ X o (I.grow e) _ λu Y s F=>by
  cases R;cases F
  refine⟨i,j,rfl,rfl,g i j,rfl,?_⟩;cases h:g i j with
  | false=>rw[Ab Ah];exact q _ Y (L2.Same.tr e s) (by rw[h];exact .bl _)
  | true=>
   rw[Ac rfl];refine N S B σ Y o ((I.grow e).grow s) _ λw U s3 P=>?_
   cases P
   refine⟨j,k,rfl,rfl,q _ U (L2.Same.tr e (L2.Same.tr s s3)) ?_⟩;rw[h,Bool.true_and];exact .bl _)
theorem eE1 (e:E K false ta ρ d):E K m (tOp (λx y H Q=>y=.non/\Q (.bl (decide (x=.non))) H) ta (tC .non)) ρ (.bool (match d with | .none=>true | _=>false)):=cH9 false false e bB6 λS H x y Q _ w r q=>by
 cases r
 refine⟨rfl,q _ H (L2.Same.rf _) ?_⟩;cases w <;> exact .bl _
theorem dI8 (e:E K false ta ρ d):E K m (tOp (λx y H Q=>y=.non/\Q (.bl (!decide (x=.non))) H) ta (tC .non)) ρ (.bool (match d with | .none=>false | _=>true)):=cH9 false false e bB6 λS H x y Q _ w r q=>by
 cases r
 refine⟨rfl,q _ H (L2.Same.rf _) ?_⟩;cases w <;> exact .bl _
end
end LV
namespace LV
open PySem PySem.Spec PyProof.Rows L2
section
mutual
theorem V0 (I:Inv X bA σ H s):∀(d:PyData) {v:V} {u:Value},d.canLay0=true->Rep X.K H v d->RelV v u->∃as,Reads s.heap u d as
 | .none,_,_,_,r,q=>by cases r;cases q;exact⟨_,.none⟩
 | .bool _,_,_,_,r,q=>by cases r;cases q;exact⟨_,.bool _⟩
 | .int _,_,_,_,r,q=>by cases r;obtain⟨t,rfl⟩:=q;exact⟨_,.int _ _⟩
 | .str _,_,_,_,r,q=>by cases r;obtain⟨t,rfl⟩:=q;exact⟨_,.str _ _⟩
 | .tuple ds,_,_,c,r,q=>by
  cases r with
  | tup sq rs=>
   cases q
   obtain⟨its,Y,⟨o,e,w,n,d⟩,_⟩:=I.tuple sq;obtain⟨as,j⟩:=aS4 I ds (by simpa[PyData.canLay0]using c) rs Y
   exact⟨_,.tuple e w d (by simpa using j)⟩
 | .list ds,_,_,c,r,q=>by
  cases r with
  | lst sq rs=>
   cases q
   obtain⟨its,Y,⟨o,n,e,w,_,d⟩,_⟩:=I.list sq;obtain⟨as,j⟩:=aS4 I ds (by simpa[PyData.canLay0]using c) rs Y
   exact⟨_,.list e w d (by simpa using j)⟩
 | .dict _,_,_,c,_,_=>by simp[PyData.canLay0]at c
theorem aS4 (I:Inv X bA σ H s):∀(ds:AF) {vs:List V} {us:AG},PyData.canLayAll0 ds=true->Reps X.K H vs ds->Vals vs us->∃as,ReadsAll s.heap us ds as
 | [],_,_,_,r,q=>by cases r;cases q;exact⟨_,.nil⟩
 | d::ds,_,_,c,r,q=>by
  have e:d.canLay0=true/\PyData.canLayAll0 ds=true:=by simpa[PyData.canLayAll0]using c
  cases r with
  | cons a b=>
   cases q with
   | cons w j=>
    obtain⟨as,h1⟩:=V0 I d e.1 a w;obtain⟨bs,Y⟩:=aS4 I ds e.2 b j;exact⟨_,.cons h1 Y⟩
end
def Fit (d:PyData):Prop:=d.canLay0=true/\d.depth<=32
def bR6 (K:Frag)(neg:Bool):R2:=λx y H Q=>∃d e,Rep K H x d/\Rep K H y e/\Fit d/\Fit e/\Q (.bl (if neg then !PyData.eqv d e else PyData.eqv d e)) H
def dB7 (K:Frag)(neg:Bool):R2:=λx y H Q=>∃d e ds,Rep K H x d/\Rep K H y e/\sq e=some ds/\Fit d/\Fit e/\Q (.bl (if neg then !ds.any λz=>PyData.eqv z d else ds.any λz=>PyData.eqv z d)) H
theorem aM5 (K:Frag)(U:Room k X.A)(h:X.K=K:=by rfl):OpR X (compareOp .Eq) (bR6 K false):=by
 subst h;intro F s σ H x y v u Q I M N ⟨d,e,j,Y,w,r,q⟩;obtain⟨R,J⟩:=V0 I d w.1 j M;obtain⟨bs,rb⟩:=V0 I e r.1 Y N;exact SeqAt.compareEq_reads J rb w.1 r.1 (by have:=U.un;have:=w.2;lia) ⟨.bl _,H,I,rfl,q⟩
theorem bN0 (K:Frag)(U:Room k X.A)(h:X.K=K:=by rfl):OpR X (compareOp .NotEq) (bR6 K true):=by
 subst h;intro F s σ H x y v u Q I M N ⟨d,e,j,Y,w,r,q⟩;obtain⟨R,J⟩:=V0 I d w.1 j M;obtain⟨bs,rb⟩:=V0 I e r.1 Y N;exact SeqAt.compareNe_reads J rb w.1 r.1 (by have:=U.un;have:=w.2;lia) ⟨.bl _,H,I,rfl,q⟩
theorem bJ4 (h:Fit (.list ds)\/Fit (.tuple ds)):PyData.canLayAll0 ds=true/\PyData.depthAll ds<=32:=by
 rcases h with⟨a,b⟩ | ⟨a,b⟩ <;> simp only[PyData.canLay0,PyData.depth]at a b <;> exact⟨a,by lia⟩
theorem dS5 (K:Frag)(U:Room k X.A)(h:X.K=K:=by rfl):OpR X (compareOp .In) (dB7 K false):=by
 subst h;intro M s σ H x y v u Q I B P ⟨d,e,ds,R,F,Y,w,j,q⟩;obtain⟨as,J⟩:=V0 I d w.1 R B;obtain⟨bs,rb⟩:=V0 I e j.1 F P;have r:EP X M σ Q (.bool (ds.any λz=>PyData.eqv z d)) s:=⟨.bl _,H,I,rfl,q⟩
 cases e with
 | list N=>
  cases Y
  have:=bJ4 (.inl j)
  exact SeqAt.in_list_reads rb J this.1 w.1 (by have:=U.un;have:=w.2;lia) r
 | tuple N=>
  cases Y
  have:=bJ4 (.inr j)
  exact SeqAt.in_tuple_reads rb J this.1 w.1 (by have:=U.un;have:=w.2;lia) r
 | _=>cases Y
theorem bF8 (K:Frag)(U:Room k X.A)(h:X.K=K:=by rfl):OpR X (compareOp .NotIn) (dB7 K true):=by
 subst h;intro M s σ H x y v u Q I B P ⟨d,e,ds,R,F,Y,w,j,q⟩;obtain⟨as,J⟩:=V0 I d w.1 R B;obtain⟨bs,rb⟩:=V0 I e j.1 F P;have r:EP X M σ Q (.bool (!ds.any λz=>PyData.eqv z d)) s:=⟨.bl _,H,I,rfl,q⟩
 cases e with
 | list N=>
  cases Y
  have:=bJ4 (.inl j)
  exact SeqAt.notIn_list_reads rb J this.1 w.1 (by have:=U.un;have:=w.2;lia) r
 | tuple N=>
  cases Y
  have:=bJ4 (.inr j)
  exact SeqAt.notIn_tuple_reads rb J this.1 w.1 (by have:=U.un;have:=w.2;lia) r
 | _=>cases Y
theorem i9:∀{l:AD} {its:AG},Vals (l.map V.int) its->IntsAre its l
 | [],_,r=>by cases r;exact .nil
 | i::l,_,r=>by
  cases r with
  | cons a b=>
   obtain⟨t,rfl⟩:=a;exact .cons _ _ (i9 b)
theorem cN4:∀{l:AD} {m:Nat} (hm:m<l.length),m<l.idxOf k->l[m]≠k
 | [],m,hm,_=>by simp at hm
 | a::l,m,hm,h=>by
  rw[List.idxOf_cons]at h;by_cases e:a=k
  .subst e;simp at h
  .have e1:(a==k)=false:=by simpa using e
   rw[e1]at h;simp only[cond_false]at h;cases m with
   | zero=>simpa using e
   | succ m=>exact cN4 (l:=l) (m:=m) (by simpa using hm) (by lia)
theorem dF3 {A:Around}{P:Program}{w:World}{E:Dz}{l:Addr}{vs:AG}{ns:AD}{Q:Dz}(F:A.handled=none)(N:s.heap.IsList l vs.toArray)(hi:IntsAre vs ns)(Y:0<ns.length)
  (h:∀h' M (t:Tok) tk,(∀b o,s.heap.get? b=some o->h'.get? b=some o)->M∈ns->(∀a,a∈ns->M<=a)->Q (.int M t) {s with heap:=h',toks:=tk}):wpAny (model P w) A (call (.builtin "min") [.ref l]) Q E s:=by
 obtain⟨xs,e⟩:=hi.allInts.items;have r:ns=xs.toList.map (·.1):=by rw[<- hi.numsOf,<- nums_intItems,<- e]
 have X:0<xs.size:=by
  have U:=Y;rw[r,Aa3,Bj]at U;exact U
 rw[e]at N;refine min_intList F N X λv h' tk hv hk=>?_
 obtain⟨t,rfl⟩:=intItems_at hv;obtain⟨h1,R⟩:=argBest_lt (numAt xs) (xs.size-1);refine h _ _ t tk hk ?_ λa J=>?_
 .rw[r,numAt_eq];exact getD_mem (by rw[Aa3,Bj];lia)
 .rw[r]at J;obtain⟨j,B,rfl⟩:=mem_getD J;rw[Aa3,Bj]at B;rw[<- numAt_eq];exact R j (by lia)
theorem dD4 (K:Frag)(Y:X.calm=true)(h:X.K=K:=by rfl):m6 X (.builtin "min") (λxs H Q=>∃(p:Addr) (l:AD),xs=[.ref p]/\SqL K H p (l.map V.int)/\l≠[]/\∀M,M∈l->(∀a∈l,M<=a)->Q (.int M) H):=by
 subst h;intro B s σ H xs us Q I r ⟨p,l,e,J,w,q⟩;subst e;obtain⟨u,rfl,F⟩:=aR3 r;cases F;obtain⟨its,R,N,_⟩:=I.list J;exact dF3 (I.ok.hd Y) N.isList (i9 R) (Dd.mpr w) λP M t tk U h1 j=>⟨.int M,H,I.kept U,⟨_,rfl⟩,q M h1 j⟩
theorem dC7 (K:Frag)(h:X.K=K:=by rfl):MtR X "list.index" (λx xs H Q=>∃(p:Addr) (l:AD) (k:Int),x=.ref p/\xs=[.int k]/\SqL K H p (l.map V.int)/\k∈l/\Q (.int (l.idxOf k)) H):=by
 subst h;intro bA s σ H x xs v us Q I rx rv ⟨p,l,k,e1,e2,hq,hk,q⟩;subst e1;subst e2;cases rx;obtain⟨u,rfl,t,rfl⟩:=aR3 rv;obtain⟨its,r,⟨o,n,e,c,B,d⟩,hz⟩:=I.list hq;obtain⟨oc,od,N,R⟩:=o;dsimp only at c B d;subst c;subst B;subst d;have Y:=r.length;rw[Aa3]at Y;have w:l.idxOf k<l.length:=Cc.mpr hk;have at_:∀(j:Nat) (w:j<its.toArray.size),∃t,its.toArray[j]=Value.int (l[j]'(by simpa[Y]using w)) t:=λj w=>by
  have U:j<l.length:=by simpa[Y]using w
  obtain⟨u,h1,t,rfl⟩:=r.get (i:=j) (x:=.int l[j]) (by rw[Aa9,Aa2 U];rfl)
  have:=(Ab0.mp h1).2
  exact⟨t,by simpa using this⟩
 have hz':=bF5
 rw[Aa3]at hz;refine call_meets F.slot_list_index ⟨_,e,rfl⟩ F.entry_list_index (F.args_list_index_2 _ _) (SeqAt.list_indexAt p its.toArray n none R (.int k t) (λy=>match y with | .int i _=>i==k | _=>false) (l.idxOf k) (by simpa[<- Y]using w) (by lia) ?_ ?_) ⟨e,λy hy=>?_,?_⟩
 .obtain⟨P,e'⟩:=at_ (l.idxOf k) (by simpa[<- Y]using w)
  rw[e'];simp
 .intro m M J;obtain⟨P,e'⟩:=at_ m M;rw[e']
  have:l[m]'(by simpa[Y]using M)≠k:=λz=>by
   have h1:m<l.length:=by simpa[Y]using M
   exact cN4 h1 J z
  simpa using this
 .obtain⟨j,w,rfl⟩:=Array.mem_iff_getElem.mp hy;obtain⟨P,e'⟩:=at_ j w;rw[e'];exact SeqAt.EqAt.int_int _ _ _ _
 .exact⟨.int _,H,I.tok _,⟨_,rfl⟩,q⟩
end
theorem cC8:∀{vs:List V} {us:AG},vs.length=us.length->(∀(j:Nat) v u,vs[j]? = some v->us[j]? = some u->RelV v u)->Vals vs us
 | [],[],_,_=>.nil
 | v::vs,u::us,hl,h=>.cons (h 0 v u rfl rfl) (cC8 (by simpa using hl) λj v u e1 e2=>h (j+1) v u (by simpa using e1) (by simpa using e2))
 | [],_::_,hl,_=>by simp at hl
 | _::_,[],hl,_=>by simp at hl
section
def eD2 (ta:TA):TE:=λσ H Q=>ta σ H λvs H1=>∃i j:Int,vs=[.int i,.int j]/\∀p,H1 p=none->Q (.ref p) (upd H1 p (.rng i j))
theorem eB1 (N:Gl X "range")(R:X.mg "range" = none)(M:PA X [a,b] ta)(F:starEach [a,b] X.env=[(false,eval a X.env),(false,eval b X.env)]:=by rfl)(Y:starEach [b] X.env=[(false,eval b X.env)]:=by rfl) :
  PE X (.Call (.Name "range" p) [a,b] [] pos) (eD2 ta):=by
 refine⟨?_⟩;intro J s σ H Q I h;refine Call_ (aO1 I N R boot_range (Bs (thn (M pos J s σ H _ I h) λus s1 ⟨vs,H1,U,r1,B⟩=>?_) (by rw[F,Y]) (by rw[Y];rfl)))
 obtain⟨i,j,e,q⟩:=B;subst e;cases r1 with
 | cons r rr=>
  cases rr with
  | cons P rr=>
   cases rr
   obtain⟨t,rfl⟩:=r;obtain⟨t',rfl⟩:=P;refine call_range_2 ?_;refine⟨.ref _,_,U.laid (λb o e=>Aa6 _ e) (Aa7 _) (show ObjOk X.prog X.w _ _ _ (.rng i j) from⟨_,_,_,Ac3 _ rfl⟩),rfl,q _ (U.hok.fresh (Aa7 _))⟩
def aQ7 (lo:Int)(n:Nat):List V:=(List.range n).map λ(k:Nat)=>V.int (lo+(k:Int))
theorem bS2 (hc:X.calm=true):m6 X (.type "list") (λxs H Q=>∃(r:Addr) (i j:Int),xs=[.ref r]/\H r=some (.rng i j)/\(-(2^62)<=i/\i<2^62 /\ -(2^62)<=j/\j<2^62/\j-i<=1000000)/\∀l,H l=none->Q (.ref l) (upd H l (.lst (aQ7 i (j-i).toNat)))):=by
 intro bA s σ H xs us Q I r ⟨M,i,j,e,hq,⟨h1,P,h3,h4,h5⟩,q⟩;subst e;obtain⟨u,rfl,rx⟩:=aR3 r;cases rx;obtain⟨t,u,v,e⟩:=I.hok M _ hq;have hn:Builtin.Range.rangeSize i j 1=((j-i).toNat:Int):=by rw[rangeSize_one];split <;> lia
 refine call_list_range (I.ok.hd hc) (show IsRange s.heap M i j 1 t u v from e) (small_one h1 P h3 h4) hn (by lia) λB tk Y N kp F it=>?_
 have rv:Vals (aQ7 i (j-i).toNat) Y.toList:=by
  obtain⟨hz,J⟩:=it;refine cC8 (by simp[aQ7,hz]) λk v u U R=>?_
  obtain⟨t,rfl⟩:=J k u (by simpa using R)
  have hk:k<(j-i).toNat:=by
   have:=(Ab0.mp U).1
   simpa[aQ7]using this
  unfold aQ7 at U;rw[Aa9,List.getElem?_range hk]at U;cases U;exact⟨t,by simp⟩
 refine⟨.ref s.heap.objs.size,_,I.laid kp (Aa7 _) (show ObjOk X.prog X.w _ B _ (.lst _) from⟨?_,Y.toList,N,rv,by simpa using F⟩),rfl,q _ (I.hok.fresh (Aa7 _))⟩
 simp[aQ7];unfold sizeLine;lia
end
end LV
namespace PySem
open Sem (wp)
theorem cN7:typeLookup (.type "list_reverseiterator") "__len__" = pure none:=by rw[typeLookup_type,builtinLookup_eq_fast];kernel_rfl
theorem dL2:typeLookup (.type "list_reverseiterator") "__length_hint__" = pure (some (.builtin "list_reverseiterator.__length_hint__")):=by rw[typeLookup_type,builtinLookup_eq_fast];kernel_rfl
section
theorem bE0 (hh:A.handled=none)(j:s.heap.IsRevIter r l ((items.size:Int)-1))(hl:s.heap.IsList l items)(B:l≠r)(S:Addr)(Y:S≠r)(N:S≠l)(res:Value)(P:Nat)(hS:s.heap.get? S=some {cls:=.type "list",data:=.seq #[] P})
  (hR:∀h' tk acc' c',(∀b o,b≠S->b≠r->s.heap.get? b=some o->h'.get? b=some o)->h'.get? S=some {cls:=.type "list",dict:=none,data:=.seq acc' c',slots := #[]} ->
   ItemsOf (λi v=>items[items.size-1-i]? = some v) acc' items.size->R (.ok (.ret res)) {s with heap:=h',toks:=tk}) (hn:items.size<=sizeLine) :
  wpAny (model prog w) A.in1 (Builtin.List.listExtendWith (.ref S) (.ref r) res)
   (λfin s'=>match fin with | .done f=>R (.ok f) s' | .again c'=>c'.quiet=true/\codeAny (model prog w) A c' R s') (λe s'=>R (.error e) s') s:=by
 have M:S∉[r,l]:=λU=>by simp at U;rcases U with h | h;exact Y h;exact N h
 unfold Builtin.List.listExtendWith;refine Aa (wpAny_typeOf j.typeIs ?_);have h1:Builtin.List.listSameRef (.ref S) (.ref r)=false:=by simp[Builtin.List.listSameRef,Y]
 have h2:(Value.type "list_reverseiterator" == Value.type "list")=false:=by decide
 have h3:(Value.type "list_reverseiterator" == Value.type "tuple")=false:=by decide
 simp only[h1,h2,h3,Bool.or_false,Cp,if_false];refine Aa (wpAny_pyIter_revIter j ?_);refine Aa (Ce ?_);unfold Builtin.List.listLengthHint;refine Aa (wpAny_specialOf j.typeIs cN7 ?_);show wpAny _ A.in1 (specialOf (Value.ref r) (Str.ofString "__length_hint__") >>= _) _ _ _;refine Aa (wpAny_specialOf j.typeIs dL2 ?_)
 wp_delta
 refine Aa (wpAny_isInstance (b:=true) j.typeIs (by rw[As];kernel_rfl) ?_)
 refine Ae ?_;rw[Ab (by decide)]
 refine Ae ⟨plainId_quiet F.plain_extend_loop _,codeAny_extend_loopS (Walks.listRev (A:=A.in1) hh r l B items).toS hn S M res items.size 0 _ _ _ rfl (Co _) ⟨Co _,by simpa using j,hl⟩ hS (ItemsOf.nil _) λs' acc' c' U J X=>?_⟩
 rw[Moved.eq_with U]
 refine hR s'.heap s'.toks acc' c' (λb ob hb Q e=>U.heap b ob (λhmem=>?_) e) J X
 rcases Aa1.mp hmem with e' | hmem
 .exact hb e'
 .exact Q (Ad8.mp hmem)
theorem aP8 (hh:A.handled=none)(B:s.heap.IsRevIter r l ((items.size:Int)-1))(hl:s.heap.IsList l items)(P:l≠r)(S:Addr)(X:S≠r)(Y:S≠l)(M:s.heap.get? S=some {cls:=.type "list",data:=.seq #[]})
  (hR:∀h' tk acc' c',(∀b o,b≠S->b≠r->s.heap.get? b=some o->h'.get? b=some o)->h'.get? S=some {cls:=.type "list",dict:=none,data:=.seq acc' c',slots := #[]} ->
   ItemsOf (λi v=>items[items.size-1-i]? = some v) acc' items.size->R (.ok (.ret .none)) {s with heap:=h',toks:=tk}) (hn:items.size<=sizeLine) :
  wpAny (model prog w) A.in1 (Builtin.«list.__init__» ⟨[.ref S,.ref r],[]⟩)
   (λfin s'=>match fin with | .done f=>R (.ok f) s' | .again c'=>c'.quiet=true/\codeAny (model prog w) A c' R s') (λe s'=>R (.error e) s') s:=by
 show wpAny _ _ (do let old <- Builtin.List.listItems (.ref S);Builtin.List.listUpdate (.ref S) (λ_ => #[]);letGo old.toList.reverse;Builtin.List.listExtendWith (.ref S) (.ref r) .none) _ _ s
 refine Aa ?_;unfold Builtin.List.listItems;refine Aa (wpAny_seqItems M rfl (Ae ?_));show wpAny _ _ (updateSeq S (λ_ => #[]) >>= λ_=>letGo (#[]:AJ).toList.reverse >>= λ_=>Builtin.List.listExtendWith (.ref S) (.ref r) .none) _ _ s
 refine Aa (wpAny_updateSeq M rfl ?_);have Q:=Ci (Obj.mapSeq (λ_=>(#[]:AJ))) M rfl
 have j:∀b o,b≠S->s.heap.get? b=some o->(s.heap.update S (Obj.mapSeq (λ_=>(#[]:AJ)))).get? b=some o:=
  λb o J e=>(Bz _ _ (Ne.symm J)).trans e
 refine Aa (wpAny_letGo ?_);refine bE0 hh (s:={s with heap:=s.heap.update S (Obj.mapSeq (λ_=>(#[]:AJ)))}) (B.at λo e=>j r o X.symm e) (hl.at λo e=>j l o Y.symm e) P S X Y .none _ Q (λh' tk acc' c' hk N U=>?_) hn
 exact hR h' tk acc' c' (λb o J F e=>hk b o J F (j b o J e)) N U
theorem bN4 (hh:A.handled=none)(Y:s.heap.IsRevIter r l ((items.size:Int)-1))(N:s.heap.IsList l items)(J:l≠r)(hn:items.size<=sizeLine)
  (B:∀h' tk acc' c',(∀b o,b≠r->s.heap.get? b=some o->h'.get? b=some o) ->
   h'.get? s.heap.objs.size=some {cls:=.type "list",dict:=none,data:=.seq acc' c',slots := #[]}->ItemsOf (λi v=>items[items.size-1-i]? = some v) acc' items.size->Q (.ref s.heap.objs.size) {s with heap:=h',toks:=tk}) :
  wpAny (model prog w) A (call (.type "list") [.ref r]) Q E s:=by
 refine callType_codes (Q₁:=λX R=>X=.ref s.heap.objs.size/\R={s with heap:=s.heap.push {cls:=.type "list",data:=.seq #[]}}) F.called_list (F.typeCall_list_1 _) F.entry_list_init
  (code_list_new _ ⟨rfl,rfl⟩) λX R h₁=>?_
 obtain⟨rfl,rfl⟩:=h₁;have M:(s.heap.push {cls:=.type "list",data:=.seq #[]}).get? s.heap.objs.size=some {cls:=.type "list",data:=.seq #[]}:=Ac3 _ rfl;have nr:s.heap.objs.size≠r:=by obtain⟨o,e,_⟩:=Y;exact(Ab9 (Ab3 e)).symm
 have nl:s.heap.objs.size≠l:=by obtain⟨o,e,_⟩:=N;exact(Ab9 (Ab3 e)).symm
 refine⟨⟨_,M,rfl⟩,F.args_list_init_2 _ _,aP8 (A:=A.in1) hh (s:={s with heap:=s.heap.push {cls:=.type "list",data:=.seq #[]}}) (Y.at λo e=>Aa6 _ e) (N.at λo e=>Aa6 _ e) J _ nr nl M (λh' tk acc' c' hk U j=>?_) hn⟩
 exact⟨rfl,B h' tk acc' c' (λb o P e=>hk b o (Ab9 (Ab3 e)) P (Aa6 _ e)) U j⟩
end
end PySem
namespace LV
open PySem PySem.Spec PyProof.Rows L2
section
def cV3 (K:Frag)(te:TE):TE:=λσ H Q=>te σ H λx H1=>∃p ys,x=.ref p/\SqL K H1 p ys/\∀l,H1 l=none->Q (.ref l) (upd H1 l (.lst ys.reverse))
theorem cL4 (K:Frag)(hc:X.calm=true)(hg1:Gl X "list")(hm1:X.mg "list" = none)(hg2:Gl X "reversed")(hm2:X.mg "reversed" = none)(he:PE X e te)(hK:X.K=K:=by rfl)
  (R:starEach [e] X.env=[(false,eval e X.env)]:=by rfl) (F:starEach [Expr.Call (.Name "reversed" p2) [e] [] pos2] X.env=[(false,eval (Expr.Call (.Name "reversed" p2) [e] [] pos2) X.env)]:=by rfl) :
  PE X (.Call (.Name "list" p1) [.Call (.Name "reversed" p2) [e] [] pos2] [] pos1) (cV3 K te):=by
 subst hK;refine⟨?_⟩;intro bA s σ H Q I h;refine wpAny_Call_Name_kw (aO1 I hg1 hm1 boot_list ?_);refine Bs ?_ (by rw[F];rfl) rfl
 rw[F];show wpAny _ _ (spliced [(false,eval (Expr.Call (.Name "reversed" p2) [e] [] pos2) X.env)]) _ _ s;refine Calls.spliced_cons ?_;refine wpAny_Call_Name_kw (aO1 I hg2 hm2 boot_reversed ?_);refine Bs ?_ (by rw[R];rfl) rfl
 rw[R];show wpAny _ _ (spliced [(false,eval e X.env)]) _ _ s;refine Calls.spliced_cons (thn (he bA s σ H _ I h) λu J ⟨x,H1,N,r1,p,ys,P,hq,q⟩=>?_)
 subst P;cases r1;refine Calls.spliced_nil ?_;obtain⟨its,rv,pl,M⟩:=N.list hq;have U:=rv.length;have hlt:p<J.heap.objs.size:=by obtain⟨o,n,e,_⟩:=pl;exact Ab3 e
 refine call_reversed_list pl.isList ?_;refine Calls.spliced_nil ?_;have I2:Inv X bA σ H1 {J with heap:=J.heap.push (revObj p ((its.toArray.size:Int)-1))}:=N.kept (t':=J.toks) λb o e=>Aa6 _ e
 refine bN4 (N.ok.hd hc) (r:=J.heap.objs.size) (items:=its.toArray) ⟨_,Ac3 _ rfl,rfl,rfl⟩ (pl.isList.at λo e=>Aa6 _ e) (Ab9 hlt) (by rw[Ab2];lia) λh' tk Y c' kp el it=>?_
 have rr:Vals ys.reverse Y.toList:=by
  obtain⟨M,hit⟩:=it;have M:Y.size=its.length:=by simpa using M
  refine cC8 (by simp[M,U]) λj v u P e2=>?_
  have hj:j<its.length:=by
   have:=(Ab0.mp e2).1
   simpa[M]using this
  have hu:=hit j u (by simpa using e2)
  rw[List.getElem?_reverse (by lia),U]at P
  obtain⟨u',h1,h2⟩:=rv.get P;simp only[Ab2]at hu;have B:its[its.length-1-j]? = some u:=by simpa using hu
  rw[h1]at B;cases B;exact h2
 have kp':∀b o,J.heap.get? b=some o->h'.get? b=some o:=λb o e=>kp b o (Ab9 (Ab3 e)) (Aa6 _ e)
 have I3:Inv X bA σ (upd H1 (J.heap.push (revObj p ((its.toArray.size:Int)-1))).objs.size (.lst ys.reverse)) {J with heap:=h',toks:=tk}:=
  N.laid kp' (by rw[Cf];exact Nat.le_succ _) (show ObjOk X.prog X.w _ h' _ (.lst _) from⟨by rw[Ae1];exact M,Y.toList,c',rr,by simpa using el⟩)
 exact⟨.ref _,_,I3,rfl,q _ (N.hok.fresh (by rw[Cf];exact Nat.le_succ _))⟩
end
end LV
namespace LS
open PySem PySem.W PyProof.Rows
def ev {α:Type}(lt:Nat->Nat->Bool):KasT α->α
 | .ret a=>a
 | .ask i j k=>ev lt (k (lt i j))
theorem aA7 (lt:Nat->Nat->Bool)(f:α->KasT β):∀t:KasT α,ev lt (t.bind f)=ev lt (f (ev lt t))
 | .ret _=>rfl
 | .ask i j k=>aA7 lt f (k (lt i j))
def W8 {α:Type}(lt:Nat->Nat->Bool)(P:Nat->Prop):KasT α->Prop
 | .ret _=>True
 | .ask i j k=>P i/\P j/\W8 lt P (k (lt i j))
theorem X5:∀{t:KasT α},W8 lt P t->W8 lt P (f (ev lt t))->W8 lt P (t.bind f)
 | .ret _,_,h=>h
 | .ask _ _ _,⟨h1,h2,h3⟩,h=>⟨h1,h2,X5 h3 h⟩
theorem eD5
  (e:∀i j C,P i->P j->C (lt i j) s->cmp i j C s):∀(t:KasT α),W8 lt P t->Q (ev lt t) s->t.kasWp cmp Q s
 | .ret _,_,h=>h
 | .ask i j k,⟨h1,w,r⟩,h=>e i j _ h1 w (eD5 e (k (lt i j)) r h)
structure Ord (lt:Nat->Nat->Bool):Prop where
 asym:∀a b,lt a b=true->lt b a=false
 trans:∀a b c,lt b a=false->lt c b=false->lt c a=false
section
def g (p:Array Nat)(i:Nat):Nat:=p.getD i 0
theorem bS7:g p i=(p[i]?).getD 0:=by unfold g;simp[Array.getD_eq_getD_getElem?]
abbrev le (lt:Nat->Nat->Bool)(a b:Nat):Prop:=lt b a=false
theorem Ord.refl (O:Ord lt)(a:Nat):le lt a a:=by
 cases h:lt a a with
 | false=>exact h
 | true=>exact O.asym a a h
theorem Ord.of_lt (O:Ord lt)(h:lt a b=true):le lt a b:=O.asym a b h
def Srt (lt:Nat->Nat->Bool)(p:Array Nat)(k:Nat):Prop:=∀i j,i<=j->j<k->le lt (g p i) (g p j)
def Dsc (lt:Nat->Nat->Bool)(p:Array Nat)(k:Nat):Prop:=∀i j,i<=j->j<k->le lt (g p j) (g p i)
theorem bX7 (e:j<=p.size)(k:Nat):g (kas_rev p i j) k=if i<=k/\k<j then g p (i+j-1-k) else g p k:=by
 unfold kas_rev;rw[bS7,getElem?_mirror_all e,bS7,bS7];split <;> rfl
theorem eR6 (e:k<p.size)(w:l<=k)(i:Nat):g (bubble p k (k-l)) i=if i=l then g p k else if l<i/\i<=k then g p (i-1) else g p i:=by
 rw[bS7,getElem?_bubble e _ (by lia),bS7,bS7,bS7,show k-(k-l)=l by lia]
 repeat' split
 all_goals rfl
theorem cB4 (O:Ord lt):∀(f n:Nat),1<=n->n+f<=N->Srt lt p n->∃m,ev lt (kas_asc p f n)=m/\n<=m/\m<=n+f/\Srt lt p m/\(m<n+f->lt (g p m) (g p (m-1))=true)/\W8 lt (λi=>∃j,j<N/\i=g p j) (kas_asc p f n)
 | 0,n,h1,hN,h=>⟨n,rfl,Aa7 _,Aa7 _,h,λz=>absurd z (Ad9 _),trivial⟩
 | f+1,n,h1,hN,h=>by
  cases w:lt (g p n) (g p (n-1)) with
  | true=>
   refine⟨n,?_,Aa7 _,by lia,h,λ_=>w,⟨n,by lia,rfl⟩,⟨n-1,by lia,rfl⟩,?_⟩
   .show ev lt (if lt (g p n) (g p (n-1))=true then KasT.ret n else kas_asc p f (n+1))=n
    rw[w];rfl
   .show W8 lt _ (if lt (g p n) (g p (n-1))=true then KasT.ret n else kas_asc p f (n+1))
    rw[w];exact trivial
  | false=>
   have J:Srt lt p (n+1):=λi j r Q=>by
    by_cases e:j=n
    .subst e;by_cases U:i=j
     .subst U;exact O.refl _
     .exact O.trans _ _ _ (h i (j-1) (by lia) (by lia)) w
    .exact h i j r (by lia)
   obtain⟨m,e,M,R,s,Y,X⟩:=cB4 O (N:=N) f (n+1) (by lia) (by lia) J
   refine⟨m,?_,by lia,by lia,s,λz=>Y (by lia),⟨n,by lia,rfl⟩,⟨n-1,by lia,rfl⟩,?_⟩
   .show ev lt (if lt (g p n) (g p (n-1))=true then KasT.ret n else kas_asc p f (n+1))=m
    rw[w];exact e
   .show W8 lt _ (if lt (g p n) (g p (n-1))=true then KasT.ret n else kas_asc p f (n+1))
    rw[w];exact X
def Same (lt:Nat->Nat->Bool)(p:Array Nat)(n q:Nat):Prop:=q<n/\∀i j,n-1-q<=i->i<n->n-1-q<=j->j<n->le lt (g p i) (g p j)
theorem cY1 (O:Ord lt)(N:n<=p.size)(h:Dsc lt p n)(w:Same lt p n q):Dsc lt (kas_rev p (n-(q+1)) n) n/\(∀k,n<=k->g (kas_rev p (n-(q+1)) n) k=g p k)/\Same lt (kas_rev p (n-(q+1)) n) n q:=by
 obtain⟨R,w⟩:=w;have e:∀k,g (kas_rev p (n-(q+1)) n) k=if n-(q+1)<=k/\k<n then g p (n-(q+1)+n-1-k) else g p k:=bX7 N;have r:∀k,k<n->le lt (g (kas_rev p (n-(q+1)) n) k) (g p k)/\le lt (g p k) (g (kas_rev p (n-(q+1)) n) k):=λk M=>by
  rw[e];split
  .exact⟨w _ _ (by lia) (by lia) (by lia) (by lia),w _ _ (by lia) (by lia) (by lia) (by lia)⟩
  .exact⟨O.refl _,O.refl _⟩
 refine⟨λi j s U=>?_,λk M=>by rw[e,Ab (by lia)],R,λi j h1 Y J X=>?_⟩
 .exact O.trans _ _ _ (r j U).1 (O.trans _ _ _ (h i j s U) (r i (by lia)).2)
 .exact O.trans _ _ _ (r i Y).1 (O.trans _ _ _ (w i j h1 Y J X) (r j X).2)
theorem aN0 (O:Ord lt)(h1:1<=n)(h:Dsc lt p n)(s:le lt (g p n) (g p (n-1))):Dsc lt p (n+1):=λi j w Y=>by
 by_cases e:j=n
 .subst e;by_cases r:i=j
  .subst r;exact O.refl _
  .exact O.trans _ _ _ s (h i (j-1) (by lia) (by lia))
 .exact h i j w (by lia)
theorem bK6 (O:Ord lt):∀(f:Nat) (p:Array Nat) (n q:Nat),1<=n->n+f<=N->N<=p.size->(∀j,j<N->P (g p j))->Dsc lt p n->Same lt p n q ->
  ∃p' m q',ev lt (kas_desc f p n q)=(p',m,q')/\p'.Perm p/\n<=m/\m<=n+f/\Dsc lt p' m/\Same lt p' m q'/\(∀j,j<N->P (g p' j))/\W8 lt P (kas_desc f p n q)
 | 0,p,n,q,h1,hN,hz,hP,h,w=>⟨p,n,q,rfl,Array.Perm.refl _,Aa7 _,Aa7 _,h,w,hP,trivial⟩
 | f+1,p,n,q,h1,hN,hz,hP,h,w=>by
  have sh:∀c:Bool,lt (g p n) (g p (n-1))=c->ev lt (kas_desc (f+1) p n q)=ev lt (if c=true then(if q>0 then kas_desc f (kas_rev p (n-(q+1)) n) (n+1) 0 else kas_desc f p (n+1) 0)
    else .ask (g p (n-1)) (g p n) λd=>if d=true then .ret (p,n,q) else kas_desc f p (n+1) (q+1)):=λc e=>by subst e;rfl
  have r:∀c:Bool,lt (g p n) (g p (n-1))=c->W8 lt P (if c=true then(if q>0 then kas_desc f (kas_rev p (n-(q+1)) n) (n+1) 0 else kas_desc f p (n+1) 0)
    else .ask (g p (n-1)) (g p n) λd=>if d=true then .ret (p,n,q) else kas_desc f p (n+1) (q+1))->W8 lt P (kas_desc (f+1) p n q):=λc e hh=>by subst e;exact⟨hP n (by lia),hP (n-1) (by lia),hh⟩
  cases s:lt (g p n) (g p (n-1)) with
  | true=>
   rw[sh true s,Ac rfl];have r:=r true s;rw[Ac rfl]at r;by_cases hq:q>0
   .rw[Ac hq]at r ⊢;obtain⟨d1,d2,d3⟩:=cY1 O (by lia) h w
    have hl:le lt (g (kas_rev p (n-(q+1)) n) n) (g (kas_rev p (n-(q+1)) n) (n-1)):=by
     rw[d2 n (Aa7 _),bX7 (by lia),Ac (by lia)]
     exact O.trans _ _ _ (O.of_lt s) (w.2 _ _ (by lia) (by lia) (by have:=w.1;lia) (by have:=w.1;lia))
    obtain⟨p',m,q',X,U,a2,a3,J,M,R,Q⟩:=bK6 O (P:=P) (N:=N) f (kas_rev p (n-(q+1)) n) (n+1) 0 (by lia) (by lia) (by unfold kas_rev;rw[mirror_size];exact hz) (λj hj=>by
     rw[bX7 (by lia)]
     split
     .exact hP _ (by have:=w.1;lia)
     .exact hP j hj) (aN0 O h1 d1 hl) ⟨by lia,λi j b1 F b3 B=>by
      have:i=j:=by lia
      subst this;exact O.refl _⟩
    exact⟨p',m,q',X,U.trans (mirror_perm _ _ _ _),by lia,by lia,J,M,R,r Q⟩
   .rw[Ab hq]at r ⊢;obtain⟨p',m,q',X,U,a2,a3,J,M,R,Q⟩:=bK6 O (P:=P) (N:=N) f p (n+1) 0 (by lia) (by lia) hz hP (aN0 O h1 h (O.of_lt s)) ⟨by lia,λi j b1 F b3 B=>by
      have:i=j:=by lia
      subst this;exact O.refl _⟩
    exact⟨p',m,q',X,U,by lia,by lia,J,M,R,r Q⟩
  | false=>
   rw[sh false s,Ab Ah];have r:=r false s;rw[Ab Ah]at r;cases Y:lt (g p (n-1)) (g p n) with
   | true=>
    refine⟨p,n,q,?_,Array.Perm.refl _,Aa7 _,by lia,h,w,hP,r ⟨hP _ (by lia),hP _ (by lia),?_⟩⟩
    .show ev lt (if lt (g p (n-1)) (g p n)=true then _ else _)=_
     rw[Y];rfl
    .show W8 lt P (if lt (g p (n-1)) (g p n)=true then _ else _)
     rw[Y];exact trivial
   | false=>
    obtain⟨hq,w⟩:=w;have s':Same lt p (n+1) (q+1):=⟨by lia,λi j b1 F b3 B=>by
     have up:∀i,n-1-q<=i->i<n+1->le lt (g p i) (g p (n-1))/\le lt (g p (n-1)) (g p i):=λi c1 c2=>by
      by_cases e:i=n
      .subst e;exact⟨Y,s⟩
      .exact⟨w i (n-1) c1 (by lia) (by lia) (by lia),w (n-1) i (by lia) (by lia) c1 (by lia)⟩
     exact O.trans _ _ _ (up i (by lia) F).1 (up j (by lia) B).2⟩
    obtain⟨p',m,q',X,U,a2,a3,J,M,R,Q⟩:=bK6 O (P:=P) (N:=N) f p (n+1) (q+1) (by lia) (by lia) hz hP (aN0 O h1 h Y) s'
    refine⟨p',m,q',?_,U,by lia,by lia,J,M,R,r ⟨hP _ (by lia),hP _ (by lia),?_⟩⟩
    .show ev lt (if lt (g p (n-1)) (g p n)=true then _ else _)=_
     rw[Y];exact X
    .show W8 lt P (if lt (g p (n-1)) (g p n)=true then _ else _)
     rw[Y];exact Q
theorem eD8 (O:Ord lt)(e:∀j,j<N->P (g p j))(h1:1<=n)(w:n+f<=N)(h:Srt lt p n):W8 lt P (kas_asc p f n):=by
 obtain⟨_,_,_,_,_,_,a⟩:=cB4 O f n h1 w h;have X:∀{α:Type} (t:KasT α),W8 lt (λi=>∃j,j<N/\i=g p j) t->W8 lt P t:=λ{α} t=>by
  induction t with
  | ret _=>exact λz=>z
  | ask i j k Y=>
   rintro⟨⟨a,r,rfl⟩,⟨b,s,rfl⟩,z⟩;exact⟨e a r,e b s,Y _ z⟩
 exact X _ a
theorem cJ1 (O:Ord lt)(h1:1<=n)(Q:n<=N)(F:N<=p.size)(r:∀j,j<N->P (g p j))(h:Dsc lt p n) :
  ∃m p',ev lt (kas_tail3 n N p)=(m,p')/\p'.Perm p/\1<=m/\m<=N/\Srt lt p' m/\(∀j,j<N->P (g p' j))/\W8 lt P (kas_tail3 n N p):=by
 have e:∀k,g (kas_rev p 0 n) k=if 0<=k/\k<n then g p (0+n-1-k) else g p k:=bX7 (by lia)
 have s:Srt lt (kas_rev p 0 n) n:=λi j J Y=>by
  rw[e,e,Ac (by lia),Ac (by lia)]
  exact h _ _ (by lia) (by lia)
 have w:∀j,j<N->P (g (kas_rev p 0 n) j):=λj Y=>by
  rw[e];split
  .exact r _ (by lia)
  .exact r j Y
 obtain⟨m,X,M,R,U,_,_⟩:=cB4 O (p:=kas_rev p 0 n) (N:=N) (N-n) n h1 (by lia) s
 refine⟨m,kas_rev p 0 n,?_,mirror_perm _ _ _ _,by lia,by lia,U,w,X5 (eD8 O w h1 (by lia) s) trivial⟩
 unfold kas_tail3;rw[aA7,X];rfl
theorem bG9 (O:Ord lt)(h1:1<=n)(hn:n+1<=N)(hz:N<=p.size)(hP:∀j,j<N->P (g p j))(h:Dsc lt p (n+1)) :
  ∃m p',ev lt (kas_descPart n N p)=(m,p')/\p'.Perm p/\1<=m/\m<=N/\Srt lt p' m/\(∀j,j<N->P (g p' j))/\W8 lt P (kas_descPart n N p):=by
 obtain⟨M,w,e,r,R,a2,a3,a4,a5,Q,a7⟩:=bK6 O (P:=P) (N:=N) (N-(n+1)) p (n+1) 0 (by lia) (by lia) hz hP h ⟨by lia,λi j s Y X U=>by
  have:i=j:=by lia
  subst this;exact O.refl _⟩
 have z1:N<=M.size:=by rw[R.size_eq];exact hz
 unfold kas_descPart;by_cases J:e>0
 .obtain⟨d1,d2,d3⟩:=cY1 O (by lia) a4 a5
  have hP':∀j,j<N->P (g (kas_rev M (w-(e+1)) w) j):=λj hj=>by
   rw[bX7 (by lia)]
   split
   .exact Q _ (by have:=a5.1;lia)
   .exact Q j hj
  obtain⟨m,p',F,s,Y,X,U,B,b6⟩:=cJ1 O (P:=P) (p:=kas_rev M (w-(e+1)) w) (n:=w) (N:=N) (by lia) (by lia) (by unfold kas_rev;rw[mirror_size];exact z1) hP' d1
  refine⟨m,p',?_,s.trans ((mirror_perm _ _ _ _).trans R),Y,X,U,B,X5 a7 ?_⟩
  .rw[aA7,r];show ev lt (if e>0 then _ else _)=_;rw[Ac J];exact F
  .rw[r];show W8 lt P (if e>0 then _ else _);rw[Ac J];exact b6
 .obtain⟨m,p',F,s,Y,X,U,B,b6⟩:=cJ1 O (P:=P) (p:=M) (n:=w) (N:=N) (by lia) (by lia) z1 Q a4
  refine⟨m,p',?_,s.trans R,Y,X,U,B,X5 a7 ?_⟩
  .rw[aA7,r];show ev lt (if e>0 then _ else _)=_;rw[Ab J];exact F
  .rw[r];show W8 lt P (if e>0 then _ else _);rw[Ab J];exact b6
theorem dR0 (O:Ord lt)(h1:1<=N)(hz:N<=p.size)(w:∀j,j<N->P (g p j)) :
  ∃m p',ev lt (kas_count N p)=(m,p')/\p'.Perm p/\1<=m/\m<=N/\Srt lt p' m/\(∀j,j<N->P (g p' j))/\W8 lt P (kas_count N p):=by
 have s1:Srt lt p 1:=λi j X r=>by
  have:i=j:=by lia
  subst this;exact O.refl _
 obtain⟨n,a0,J,a2,M,a4,_⟩:=cB4 O (p:=p) (N:=N) (N-1) 1 (by lia) (by lia) s1
 have aP:=eD8 O w (f:=N-1) (n:=1) (by lia) (by lia) s1
 unfold kas_count;have U:∀{t:KasT (Nat×Array Nat)},(if(n==N)=true then KasT.ret (n,p) else if n>1 then .ask (p.getD 0 0) (p.getD (n-1) 0) λc=>if c=true then .ret (n,p) else kas_descPart n N (kas_rev p 0 n) else kas_descPart n N p)=t ->
   (∃m p',ev lt t=(m,p')/\p'.Perm p/\1<=m/\m<=N/\Srt lt p' m/\(∀j,j<N->P (g p' j))/\W8 lt P t) ->
   ∃m p',ev lt ((kas_asc p (N-1) 1).bind λn=>if(n==N)=true then .ret (n,p) else if n>1 then .ask (p.getD 0 0) (p.getD (n-1) 0) λc=>if c=true then .ret (n,p) else kas_descPart n N (kas_rev p 0 n) else kas_descPart n N p)=(m,p')/\p'.Perm p/\1<=m/\m<=N/\Srt lt p' m/\(∀j,j<N->P (g p' j)) /\
    W8 lt P ((kas_asc p (N-1) 1).bind λn=>if(n==N)=true then .ret (n,p) else if n>1 then .ask (p.getD 0 0) (p.getD (n-1) 0) λc=>if c=true then .ret (n,p) else kas_descPart n N (kas_rev p 0 n) else kas_descPart n N p):=λ{t} e h=>by
  obtain⟨m,p',R,Q,F,B,b4,b5,b6⟩:=h;refine⟨m,p',?_,Q,F,B,b4,b5,X5 aP ?_⟩
  .rw[aA7,a0,e];exact R
  .rw[a0,e];exact b6
 refine U rfl ?_;by_cases e:n=N
 .rw[Ac (by simp[e])]
  exact⟨n,p,rfl,Array.Perm.refl _,J,by lia,M,w,trivial⟩
 .rw[Ab (by simp[e])]
  have hd:=a4 (by lia)
  by_cases h2:n>1
  .rw[Ac h2];cases Y:lt (g p 0) (g p (n-1)) with
   | true=>
    refine⟨n,p,?_,Array.Perm.refl _,J,by lia,M,w,w 0 (by lia),w (n-1) (by lia),?_⟩
    .show ev lt (if lt (g p 0) (g p (n-1))=true then _ else _)=_
     rw[Y];rfl
    .show W8 lt P (if lt (g p 0) (g p (n-1))=true then _ else _)
     rw[Y];exact trivial
   | false=>
    have al:∀i j,i<n->j<n->le lt (g p i) (g p j):=λi j hi r=>O.trans _ _ _ (M i (n-1) (by lia) (by lia)) (O.trans _ _ _ Y (M 0 j (by lia) r))
    have s:∀k,g (kas_rev p 0 n) k=if 0<=k/\k<n then g p (0+n-1-k) else g p k:=bX7 (by lia)
    have ds:Dsc lt (kas_rev p 0 n) (n+1):=by
     refine aN0 O J (λi j X r=>?_) ?_
     .rw[s,s,Ac (by lia),Ac (by lia)]
      exact al _ _ (by lia) (by lia)
     .rw[s,s,Ab (by lia),Ac (by lia)]
      exact O.trans _ _ _ (O.of_lt hd) (al _ _ (by lia) (by lia))
    have hP':∀j,j<N->P (g (kas_rev p 0 n) j):=λj r=>by
     rw[s];split
     .exact w _ (by lia)
     .exact w j r
    obtain⟨m,p',R,Q,F,B,b4,b5,b6⟩:=bG9 O (P:=P) (p:=kas_rev p 0 n) (n:=n) (N:=N) J (by lia) (by unfold kas_rev;rw[mirror_size];exact hz) hP' ds
    refine⟨m,p',?_,Q.trans (mirror_perm _ _ _ _),F,B,b4,b5,w 0 (by lia),w (n-1) (by lia),?_⟩
    .show ev lt (if lt (g p 0) (g p (n-1))=true then _ else _)=_
     rw[Y];exact R
    .show W8 lt P (if lt (g p 0) (g p (n-1))=true then _ else _)
     rw[Y];exact b6
  .rw[Ab h2];have n1:n=1:=by lia
   subst n1;exact bG9 O (Aa7 _) (by lia) hz w (aN0 O (Aa7 _) (λi j X r=>by
    have:i=j:=by lia
    subst this;exact O.refl _) (O.of_lt hd))
theorem bQ2 (O:Ord lt)(X:k<N)(w:∀j,j<N->P (g p j))(U:Srt lt p k):∀(f l r:Nat),l<=r->r<=k->r-l<=f->(∀i,i<l->le lt (g p i) (g p k))->(∀i,r<=i->i<k->lt (g p k) (g p i)=true) ->
  ∃m,ev lt (kas_place p k f l r)=m/\m<=k/\(∀i,i<m->le lt (g p i) (g p k))/\(∀i,m<=i->i<k->lt (g p k) (g p i)=true)/\W8 lt P (kas_place p k f l r)
 | 0,l,r,h1,h2,h3,h4,h5=>⟨l,rfl,by lia,h4,λi a b=>h5 i (by lia) b,trivial⟩
 | f+1,l,r,h1,h2,h3,h4,h5=>by
  unfold kas_place;by_cases Y:l≥r
  .rw[Ac Y];exact⟨l,rfl,by lia,h4,λi a b=>h5 i (by lia) b,trivial⟩
  .rw[Ab Y];cases s:lt (g p k) (g p ((l+r) / 2)) with
   | true=>
    obtain⟨m,J,M,R,Q,F⟩:=bQ2 O X w U f l ((l+r) / 2) (by lia) (by lia) (by lia) h4 (λi B b2=>by
     cases e:lt (g p k) (g p i) with
     | true=>rfl
     | false=>
      have:lt (g p k) (g p ((l+r) / 2))=false:=O.trans _ _ _ (U _ _ B b2) e
      rw[s]at this;cases this)
    refine⟨m,?_,M,R,Q,w k X,w _ (by lia),?_⟩
    .show ev lt (if lt (g p k) (g p ((l+r) / 2))=true then _ else _)=_
     rw[s];exact J
    .show W8 lt P (if lt (g p k) (g p ((l+r) / 2))=true then _ else _)
     rw[s];exact F
   | false=>
    obtain⟨m,J,M,R,Q,F⟩:=bQ2 O X w U f ((l+r) / 2+1) r (by lia) (by lia) (by lia) (λi B=>O.trans _ _ _ (U i ((l+r) / 2) (by lia) (by lia)) s) h5
    refine⟨m,?_,M,R,Q,w k X,w _ (by lia),?_⟩
    .show ev lt (if lt (g p k) (g p ((l+r) / 2))=true then _ else _)=_
     rw[s];exact J
    .show W8 lt P (if lt (g p k) (g p ((l+r) / 2))=true then _ else _)
     rw[s];exact F
theorem dO7 (O:Ord lt):∀(f:Nat) (p:Array Nat) (k:Nat),k+f=N->N<=p.size->(∀j,j<N->P (g p j))->Srt lt p k ->
  ∃p',ev lt (kas_bin f p k)=p'/\p'.Perm p/\Srt lt p' N/\W8 lt P (kas_bin f p k)
 | 0,p,k,hN,hz,hP,h=>⟨p,rfl,Array.Perm.refl _,(show k=N from hN)▸h,trivial⟩
 | f+1,p,k,hN,hz,hP,h=>by
  obtain⟨l,Y,M,R,Q,F⟩:=bQ2 O (k:=k) (N:=N) (by lia) hP h k 0 k (by lia) (by lia) (by lia) (λi z=>absurd z (Nat.not_lt_zero _)) (λi a b=>by lia)
  have e:∀i,g (bubble p k (k-l)) i=if i=l then g p k else if l<i/\i<=k then g p (i-1) else g p i:=eR6 (by lia) M
  have s':Srt lt (bubble p k (k-l)) (k+1):=λi j s hj=>by
   rw[e,e];by_cases J:i=l
   .rw[Ac J];by_cases w:j=l
    .rw[Ac w];exact O.refl _
    .rw[Ab w,Ac (by lia)]
     exact O.of_lt (Q _ (by lia) (by lia))
   .rw[Ab J];by_cases w:j=l
    .rw[Ac w,Ab (by lia)]
     exact R i (by lia)
    .rw[Ab w];by_cases X:l<i/\i<=k
     .rw[Ac X,Ac (by lia)]
      exact h _ _ (by lia) (by lia)
     .rw[Ab X];by_cases U:l<j/\j<=k
      .rw[Ac U];exact h _ _ (by lia) (by lia)
      .rw[Ab U];exact h _ _ s (by lia)
  have r:∀j,j<N->P (g (bubble p k (k-l)) j):=λj hj=>by
   rw[e]
   repeat' split
   all_goals exact hP _ (by lia)
  obtain⟨p',B,b1,b2,b3⟩:=dO7 O (P:=P) (N:=N) f (bubble p k (k-l)) (k+1) (by lia) (by rw[bubble_size];exact hz) r s'
  refine⟨p',?_,b1.trans (bubble_perm _ _ _),b2,?_⟩
  .show ev lt ((kas_place p k k 0 k).bind λl=>kas_bin f (bubble p k (k-l)) (k+1))=p'
   rw[aA7,Y];exact B
  .show W8 lt P ((kas_place p k k 0 k).bind λl=>kas_bin f (bubble p k (k-l)) (k+1))
   exact X5 F (by rw[Y];exact b3)
theorem dY0 (O:Ord lt)(h1:1<=N):∃p',ev lt (kas_sort N)=p'/\p'.Perm (List.toArray (List.range N))/\Srt lt p' N/\W8 lt (λi=>i<N) (kas_sort N):=by
 have B:∀j,j<N->g (List.toArray (List.range N)) j<N:=λj hj=>by
  rw[bS7];simp[hj]
 obtain⟨m,s,e,r,a2,a3,Y,J,X⟩:=dR0 O (P:=λi=>i<N) (p:=List.toArray (List.range N)) (N:=N) h1 (by simp) B
 have z1:N<=s.size:=by rw[r.size_eq];simp
 unfold kas_sort;by_cases w:m<N
 .have U:max m 1=m:=by lia
  obtain⟨p',M,R,Q,F⟩:=dO7 O (P:=λi=>i<N) (N:=N) (N-m) s m (by lia) z1 J Y
  refine⟨p',?_,R.trans r,Q,X5 X ?_⟩
  .rw[aA7,e];dsimp only;rw[Ac w,U];exact M
  .rw[e];dsimp only;rw[Ac w,U];exact F
 .have:m=N:=by lia
  refine⟨s,?_,r,this▸Y,X5 X ?_⟩
  .rw[aA7,e];dsimp only;rw[Ab w];rfl
  .rw[e];dsimp only;rw[Ab w];exact trivial
end
end LS
namespace LV
open PySem PySem.Spec PyProof.Rows L2 PySem.W Att
section
variable {P:Program}{w:World}{A:Around}{s:Shared}{Q:Bool->Shared->Prop}
theorem aZ1 (a b:Int)(as bs:AD):HT.aA6 (a::as) (b::bs)=if a=b then HT.aA6 as bs else decide (a<b):=rfl
theorem bI4:∀{xs ys:AG} {as bs:AD} (i:Nat),IntsAre xs as->IntsAre ys bs->Q (HT.aA6 as bs) s->KatLex P w A true (decide (as.length<bs.length)) Q (xs.zip ys) i s
 | _,_,_,_,i,.nil,.nil,h=>h
 | _,_,_,_,i,.nil,@IntsAre.cons n t vs ns r,h=>by
  have e:decide (([]:AD).length<(n::ns).length)=true:=by simp
  show Q (decide (([]:AD).length<(n::ns).length)) s
  rw[e];exact h
 | _,_,_,_,i,@IntsAre.cons n t vs ns r,.nil,h=>by
  have e:decide ((n::ns).length<([]:AD).length)=false:=by simp
  show Q (decide ((n::ns).length<([]:AD).length)) s
  rw[e];exact h
 | _,_,_,_,i,@IntsAre.cons a t xs as ra,@IntsAre.cons b u ys bs rb,h=>by
  rw[aZ1]at h;refine kat_cons ?_;refine SeqAt.EqAt.int_int a t b u P w _ _ ?_;by_cases e:a=b
  .subst e;rw[Ac rfl]at h
   have:(a==a)=true:=by simp
   rw[this];refine kat_yes ?_;have e2:decide ((a::as).length<(a::bs).length)=decide (as.length<bs.length):=by simp
   rw[e2];exact bI4 (i+1) ra rb h
  .rw[Ab e]at h
   have:(a==b)=false:=by simpa using e
   rw[this];refine kat_no ?_;cases hb:(true&&i==0) with
   | true=>exact oneLt_int h
   | false=>exact kat_one _ _ (lt_int h)
theorem bO9:∀a b:AD,HT.aA6 a b=true->HT.aA6 b a=false
 | [],[],h=>by cases h
 | [],_::_,_=>rfl
 | _::_,[],h=>by cases h
 | x::xs,y::ys,h=>by
  rw[aZ1]at h ⊢;by_cases e:x=y
  .subst e;rw[Ac rfl]at h ⊢;exact bO9 xs ys h
  .rw[Ab e]at h;rw[Ab (λz=>e z.symm)]
   have:=Aj h
   exact Aw (by lia)
def P5 (a b:AD):Prop:=HT.aA6 b a=false
theorem aP7:∀a b c:AD,P5 a b->P5 b c->P5 a c
 | [],_,[],_,_=>rfl
 | [],_,_::_,_,_=>rfl
 | _::_,[],_,h,_=>by cases h
 | _::_,_::_,[],_,h=>by cases h
 | x::xs,y::ys,z::zs,h1,e=>by
  unfold P5 at *;rw[aZ1]at *;by_cases j:y=x
  .subst j;rw[Ac rfl]at h1;by_cases r:z=y
   .subst r;rw[Ac rfl]at e ⊢;exact aP7 xs ys zs h1 e
   .rw[Ab r]at e ⊢;exact e
  .rw[Ab j]at h1;have h1:=Ar h1;by_cases r:z=y
   .subst r;rw[Ab j];exact Aw h1
   .rw[Ab r]at e;have e:=Ar e;rw[Ab (by lia)]
    exact Aw (by lia)
theorem cK5:∀a b:AD,P5 a b->P5 b a->a=b
 | [],[],_,_=>rfl
 | [],_::_,_,h=>by cases h
 | _::_,[],h,_=>by cases h
 | x::xs,y::ys,h1,r=>by
  unfold P5 at *;rw[aZ1]at *;by_cases e:x=y
  .subst e;rw[Ac rfl]at h1 r;rw[cK5 xs ys h1 r]
  .rw[Ab (λz=>e z.symm)]at h1
   rw[Ab e]at r;have h1:=Ar h1;have r:=Ar r
   lia
theorem bW7 (a b:AD):P5 a b\/P5 b a:=by
 unfold P5;cases h:HT.aA6 b a with
 | false=>exact .inl rfl
 | true=>exact .inr (bO9 b a h)
theorem dX6 (ts:Nat->AD):LS.Ord λi j=>HT.aA6 (ts i) (ts j):=
 ⟨λa b h=>bO9 _ _ h,λa b c h1 e=>aP7 _ _ _ h1 e⟩
def TupsAt (h:Heap):AG->AB->Prop
 | [],[]=>True
 | v::vs,t::ts=>(∃a its,v=.ref a/\IsTup h a its/\IntsAre its.toList t/\t≠[])/\TupsAt h vs ts
 | _,_=>False
theorem TupsAt.length {h:Heap}:∀{vs:AG} {ts:AB},TupsAt h vs ts->vs.length=ts.length
 | [],[],_=>rfl
 | _::_,_::_,r=>by simp[TupsAt.length r.2]
 | [],_::_,r=>r.elim
 | _::_,[],r=>r.elim
theorem TupsAt.get:∀{vs:AG} {ts:AB} {i:Nat},TupsAt h vs ts->i<ts.length->∃a its,vs.getD i .none=.ref a/\IsTup h a its/\IntsAre its.toList (ts.getD i [])
 | v::vs,t::ts,0,⟨⟨a,its,e,h1,h2,_⟩,_⟩,_=>⟨a,its,e,h1,h2⟩
 | v::vs,t::ts,i+1,⟨_,r⟩,hi=>TupsAt.get (i:=i) r (by simpa using hi)
 | [],[],_,_,hi=>by simp at hi
 | [],_::_,_,r,_=>r.elim
 | _::_,[],_,r,_=>r.elim
theorem TupsAt.keep:∀{vs:AG} {ts:AB},TupsAt h vs ts->(∀a its,Value.ref a∈vs->IsTup h a its->IsTup h' a its)->TupsAt h' vs ts
 | [],[],_,_=>trivial
 | v::vs,t::ts,⟨⟨a,its,e,h1,h2,h3⟩,r⟩,k=>⟨⟨a,its,e,k a its (by rw[e];simp) h1,h2,h3⟩,r.keep λa its ha=>k a its (Ad4 _ ha)⟩
 | [],_::_,r,_=>r.elim
 | _::_,[],r,_=>r.elim
theorem TupsAt.kat:∀{vs:AG} {ts:AB},TupsAt h vs ts->∃fs,KatTups h vs fs/\fs.length=vs.length/\∀f∈fs,∃i t,f=Value.int i t
 | [],[],_=>⟨[],.nil,rfl,by simp⟩
 | v::vs,t::ts,⟨⟨a,its,e,⟨o,ho,hc,n,hd⟩,h2,h3⟩,r⟩=>by
  obtain⟨fs,k1,k2,k3⟩:=r.kat;subst e;obtain⟨l⟩:=its;cases h2 with
  | nil=>exact absurd rfl h3
  | cons i u r'=>
   refine⟨.int i u::fs,.cons ho hc hd (by simp) k1,by simp[k2],λf hf=>?_⟩
   rcases Aa1.mp hf with rfl | hf
   .exact⟨_,_,rfl⟩
   .exact k3 f hf
 | [],_::_,r=>r.elim
 | _::_,[],r=>r.elim
end
section
variable {P:Program}{w:World}{A:Around}{s:Shared}{E:Dz}
theorem cH3 (hL:s.heap.Ns L m)(hl:s.heap.IsList l vs.toArray)(ht:TupsAt s.heap vs ts)(J:∀a,Value.ref a∈vs->a≠L)(h2:2<=vs.length)(h64:vs.length<64)
  (h:∀h' D (p:AC) c,h'.Ns L m->(∀b o,b≠L->s.heap.get? b=some o->h'.get? b=some o)->s.heap.get? D=none->h'.get? D=some {cls:=.type "list",data:=.seq (p.map λi=>vs.getD i .none).toArray c}->p.Perm (List.range vs.length)->(p.map λi=>ts.getD i []).Pairwise P5->Q (.ref D) {s with heap:=h'}) :
  wpAny (model P w) A (call (.builtin "sorted") [.ref l]) Q E s:=by
 have hlen:=ht.length
 refine kat_sorted (eI4 hL) dO8 hl h2 h64 λD e1 h' F' N' hD=>?_
 have kp:∀b o,b≠L->s.heap.get? b=some o->h'.get? b=some o:=λb o hb e=>(N' (b,o) (Ad4 _ (aL1 hb (aG5 _ _) e))).1
 have DL:D≠L:=(N' _ Al).2.1
 have hDs:s.heap.get? D=none:=by
  cases e:s.heap.get? D with
  | none=>rfl
  | some o=>exact absurd (hD (D,o) (aL1 DL (aG5 _ _) e)) (Ad9 _)
 have Y:TupsAt h' vs ts:=ht.keep λa its ha ⟨o,e,r⟩=>⟨o,kp a o (J a ha) e,r⟩
 obtain⟨fs,k1,k2,k3⟩:=Y.kat;refine kat_kind (s:={s with heap:=h'}) k1 (by lia) (T:=.type "int") (λv hv=>?_) (by decide) ?_
 .obtain⟨i,t,rfl⟩:=k3 v hv;exact λA Q E s _ q=>wpAny_of_eq (show typeOf (Value.int i t)=pure (.type "int") from rfl) q
 have et:(Value.type "int" != Value.type "tuple")=true:=by decide
 rw[et];obtain⟨F,e0,hp,hs,ha⟩:=LS.dY0 (dX6 λi=>ts.getD i []) (N:=vs.length) (by lia)
 refine LS.eD5 (P:=λi=>i<vs.length) (lt:=λi j=>HT.aA6 (ts.getD i []) (ts.getD j [])) (λi j C hi hj hC=>?_) _ ha ?_
 .obtain⟨a,its,e,⟨o,h1,c1,n1,d1⟩,r1⟩:=Y.get (i:=i) (by lia)
  obtain⟨a',R,e',⟨o',h1',c1',n1',d1'⟩,B⟩:=Y.get (i:=j) (by lia)
  unfold kas_ask;rw[e,e'];refine kat_lt (s:={s with heap:=h'}) h1 d1 h1' d1' ?_
  have el:decide (its.size<R.size)=decide ((ts.getD i []).length<(ts.getD j []).length):=by
   have a1:=r1.length;have a2:=B.length
   simp only[Bj]at a1 a2;rw[a1,a2]
  rw[el];exact bI4 0 r1 B hC
 .rw[e0];refine KasFin.intro F' N' (.head λp hp z=>?_) λU c F'' X=>?_
  .have:=hD p hp
   rw[z]at this;exact absurd this (Ad9 _)
  .have kp2:∀b o,b≠L->s.heap.get? b=some o->U.get? b=some o:=λb o hb e=>(X (b,o) (Ad4 _ (aL1 hb (aG5 _ _) e))).1
   have M:F.toList.Perm (List.range vs.length):=by simpa using(Array.perm_iff_toList_perm.mp hp)
   refine h U D F.toList c F''.ns kp2 hDs (X _ Al).1 M ?_;rw[Ae0,List.pairwise_iff_getElem];intro i j hi hj hij;have hz:F.toList.length=vs.length:=by rw[M.length_eq];simp
   have:=hs i j (Cv hij) (by lia)
   unfold LS.le at this;rw[LS.bS7,LS.bS7]at this;have hi':i<F.size:=by simpa using hi
   have hj':j<F.size:=by simpa using hj
   simp only[Cg hi',Cg hj',Option.getD_some]at this;unfold P5;simpa using this
theorem bJ0 (ho:s.heap.get? a=some (seqObj "list" vs.toArray n))(J:vs.length<2)
  (h:P' (.done (.ret .none)) {s with heap:=sortedHeap s.heap a vs vs.toArray}):wpAny (model P w) A (Builtin.«list.sort» ⟨[.ref a],[]⟩) P' E s:=by
 rw[list_sort_plain];have M:a<s.heap.objs.size:=Ab3 ho;refine Aa (listItems_at ho rfl ?_);refine Aa (listUpdate_at ho rfl ?_);obtain⟨X,r⟩:∃X,(s.heap.update a (Obj.mapSeq λ_ => #[])).get? a=some (seqObj "list" #[] X):=⟨_,get?_update_seq ho (λ_ => #[])⟩
 refine Aa (seqEpoch_at r rfl ?_);refine Aa (wpAny_newTuple ?_);refine Aa (wpAny_newList ?_);refine Ce ?_;have j:(((s.heap.update a (Obj.mapSeq λ_ => #[])).push (seqObj "tuple" vs.toArray 0)).push (seqObj "list" #[] 0)).get? a=some (seqObj "list" #[] X):=by
  rw[Heap.get?_push_ne _ _ _ (by rw[size_push',Heap.size_update];exact Ab9 (Ds M)),Heap.get?_push_ne _ _ _ (by rw[Heap.size_update];exact Ab9 M)]
  exact r
 show wpAny (model P w) A _ P' E {s with heap:=((s.heap.update a (Obj.mapSeq λ_ => #[])).push (seqObj "tuple" vs.toArray 0)).push (seqObj "list" #[] 0)}
 dsimp only
 have Y:vs.toArray.size<2:=by simpa using J
 rw[Ac Y,Ac Y];refine Aa (Ae ?_);rw[StateT.run_pure];refine Aa (Ae ?_);dsimp only;refine Aa (seqEpoch_at j rfl ?_);refine Aa (listUpdate_at j rfl ?_ (hsz2:=by rw[Array.size_map];show(pairsOf vs).size<=_;rw[pairsOf_size,Dg];lia))
 simp only[bne_self_eq_false,Cp,if_false];refine Ae ?_;have e:(arrOf (SortSt.mk' general' (vs.toArray.zip vs.toArray) #[] 7 none)).map (·.2)=vs.toArray:=by
  show(vs.toArray.zip vs.toArray).map (·.2)=vs.toArray
  refine Array.ext (by simp) λi h1 J=>by simp
 have U:=h
 unfold sortedHeap at U;rw[e];exact U
theorem cA9 (Y:s.heap.IsList l vs.toArray)(j:vs.length<2)
  (h:Q (.ref (s.heap.objs.size+1)) {s with heap:=sortedAll s.heap vs vs.toArray}):wpAny (model P w) A (call (.builtin "sorted") [.ref l]) Q E s:=by
 refine Calls.call_function_entry kind_sorted plain_sorted entry_sorted (args_sorted1 _) ?_;unfold Builtin.«sorted»;refine Aa (m:=checkCount "sorted" 1 1 _) (Ae ?_);refine Aa (collect_list Y ?_ (by rw[Dg];lia))
 refine Aa (wpAny_newList ?_ (by rw[Dg];lia))
 have r:((s.heap.push (seqObj "list" #[] 0)).update s.heap.objs.size (Obj.mapSeq (· ++ vs.toArray))).objs.size=s.heap.objs.size+1:=by
  rw[Heap.size_update,size_push']
 have e:(((s.heap.push (seqObj "list" #[] 0)).update s.heap.objs.size (Obj.mapSeq (· ++ vs.toArray))).push (seqObj "list" vs.toArray 0)).get? (s.heap.objs.size+1)=some (seqObj "list" vs.toArray 0):=by
  rw[<- r];exact Ac3 _ rfl
 show wpAny _ _ _ _ _ {s with heap:=((s.heap.push (seqObj "list" #[] 0)).update s.heap.objs.size (Obj.mapSeq (· ++ vs.toArray))).push (seqObj "list" vs.toArray 0)}
 rw[r];refine Aa (Ce (Da slot_list_sort ⟨_,e,rfl⟩ entry_list_sort (bJ0 e j ⟨_,rfl,?_⟩) (args_list_sort _)));exact Ae ⟨_,rfl,h⟩
end
section
theorem X9:∀(o:HO),ObjOk P w H h a o->∃u,h.get? a=some u
 | .lst _,⟨_,its,n,_,e⟩=>⟨_,e⟩
 | .tup _,⟨_,its,_,o,e,_⟩=>⟨_,e⟩
 | .dK _,⟨_,_,vs,_,o,j,n,e,_⟩=>⟨_,e⟩
 | .dT _,⟨_,_,xs,_,o,j,s,e,_⟩=>⟨_,e⟩
 | .set _ _,⟨o,j,s,t,e,_⟩=>⟨_,e⟩
 | .ins _ _ _,⟨_,_,_,e,_⟩=>⟨_,e⟩
 | .own _,e=>e
 | .xd _,⟨Y,⟨o,h1⟩,_⟩=>by
  first
  | exact⟨_,h1.1⟩
  | (obtain⟨_,_,r,_⟩:=h1;exact⟨_,r⟩)
  | (obtain⟨_,r,_⟩:=h1;exact⟨_,r⟩)
 | .met _ _,e=>⟨_,e⟩
 | .rng _ _,⟨_,_,_,e⟩=>⟨_,e⟩
 | .frz _ _,⟨e,_⟩=>⟨_,e⟩
 | .tbl _,e=>⟨_,e⟩
 | .ext _,⟨_,e,_⟩=>e
theorem cR4 {bA:Eb}{σ:L2.St}{H:Hp}{s:Shared}{h':Heap}{m:Str->Option Value}{D:Addr}{ys:List V}{its:AG}{c:Nat}(I:Inv X bA σ H s)(B:s.heap.Ns X.env.locals m)(Y:h'.Ns X.env.locals m)(J:∀b o,b≠X.env.locals->s.heap.get? b=some o->h'.get? b=some o)
  (Q:s.heap.get? D=none) (e:h'.get? D=some {cls:=.type "list",data:=.seq its.toArray c}) (rv:Vals ys its) (hz:ys.length<=sizeLine):H D=none/\Inv X bA σ (upd H D (.lst ys)) {s with heap:=h'}:=by
 have R:H D=none:=by
  cases q:H D with
  | none=>rfl
  | some o=>obtain⟨u,F⟩:=X9 o (I.hok D o q);rw[Q]at F;cases F
 have nD:∀b o,s.heap.get? b=some o->b≠D:=λb o q z=>by rw[z,Q]at q;cases q
 have U:∀b o,H b=some o->b≠D:=λb o q z=>by rw[z,R]at q;cases q
 refine⟨R,?_⟩;refine I.step (g':=s.gens) (d':=s.drawn) (t':=s.toks) (ch:=[]) (by simp) (λb o w _ _ q _=>J b o w q) (λb o w _ _ q _=>⟨o.slots,J b o w q⟩) (λb o _ q n=>by rw[B6 (nD b o q)];exact n) (λb o _ q=>?_)
  (λb xs q=>by rw[B6 (U b _ q)];exact q) (λb o u q=>by rw[B6 (U b _ q)];exact q) (λb ps q=>⟨#[],by rw[B6 (U b _ q)];simpa using q⟩) (λm' M=>?_) (λb o q=>?_) I.bare
 .by_cases w:b=X.env.locals
  .subst w;obtain⟨o',_,_,N,_⟩:=Y;exact⟨o',N⟩
  .exact⟨o,J b o w q⟩
 .rw[M.eq_nsMap,<- B.eq_nsMap];exact Y
 .by_cases w:b=D
  .subst w;rw[C4]at q;cases q;exact⟨hz,its,c,rv,e⟩
  .rw[B6 w]at q;refine(I.hok b o q).stay (λj v P r=>J j v ?_ r) (λj r=>by rw[B6 (U j _ r)];exact r) λj xs r=>by rw[B6 (U j _ r)];exact r
   rcases P with z | z
   .rw[z];exact G7 q I.free
   .exact G7 z I.free
end
def TupsV (K:Frag)(H:Hp):List V->AB->Prop
 | [],[]=>True
 | v::vs,t::ts=>(∃a,v=.ref a/\SqT K H a (t.map V.int)/\t≠[])/\TupsV K H vs ts
 | _,_=>False
theorem TupsV.length {K:Frag}{H:Hp}:∀{vs:List V} {ts:AB},TupsV K H vs ts->vs.length=ts.length
 | [],[],_=>rfl
 | _::_,_::_,r=>by simp[TupsV.length r.2]
 | [],_::_,r=>r.elim
 | _::_,[],r=>r.elim
section
theorem dT9 (I:Inv X bA σ H s)(h:SqT X.K H a xs):a≠X.env.locals:=by
 rcases h with (h | ⟨o,h⟩) | ⟨o,its,n,e,_⟩
 .exact G7 h I.free
 .exact G7 h I.free
 .have:=Ab3 (I.mod.kin a o e)
  exact Ab9 (Ab8 this (Bd I.ok.bsz I.ok.above))
theorem cW5 (I:Inv X bA σ H s):∀{vs:List V} {ts:AB} {us:AG},TupsV X.K H vs ts->Vals vs us->TupsAt s.heap us ts/\∀a,Value.ref a∈us->a≠X.env.locals
 | [],[],_,_,r=>by cases r;exact⟨trivial,λa h=>by simp at h⟩
 | v::vs,t::ts,_,⟨⟨a,e,sq,ne⟩,h⟩,r=>by
  subst e;cases r with
  | cons j Y=>
   cases j
   obtain⟨h1,w⟩:=cW5 I h Y;obtain⟨its,U,p,_⟩:=I.tuple sq;refine⟨⟨⟨a,its.toArray,rfl,p,by simpa using i9 U,ne⟩,h1⟩,λb hb=>?_⟩
   rcases Aa1.mp hb with e | hb
   .cases e;exact dT9 I sq
   .exact w b hb
 | [],_::_,_,h,_=>h.elim
 | _::_,[],_,h,_=>h.elim
theorem bW1 (r:Vals vs us):∀{q:AC},(∀i∈q,i<vs.length)->Vals (q.map λi=>vs.getD i .non) (q.map λi=>us.getD i .none)
 | [],_=>.nil
 | i::q,h=>by
  have hi:=h i (by simp)
  obtain⟨u,h1,s⟩:=r.get (i:=i) (x:=vs[i]) (Aa2 hi);refine .cons ?_ (bW1 r λj Y=>h j (by simp[Y]))
  have e:vs.getD i .non=vs[i]:=by simp[List.getD,hi]
  have w:us.getD i .none=u:=by simp[List.getD,h1]
  show RelV (vs.getD i .non) (us.getD i .none)
  rw[e,w];exact s
end
section
theorem aS9 (K:Frag)(h:X.K=K:=by rfl):m6 X (.builtin "sorted") (λxs H Q=>∃(p:Addr) (ys:List V) (ts:AB),xs=[.ref p]/\SqL K H p ys/\TupsV K H ys ts/\ys.length<64 /\
  ∀a (q:AC),H a=none->q.Perm (List.range ys.length)->(q.map λi=>ts.getD i []).Pairwise P5->Q (.ref a) (upd H a (.lst (q.map λi=>ys.getD i .non)))):=by
 subst h;intro bA s σ H xs us Q I r ⟨p,ys,ts,e,hq,P,h64,q⟩;subst e;obtain⟨u,rfl,rx⟩:=aR3 r;cases rx;obtain⟨its,J,pl,hz⟩:=I.list hq;have j:=J.length;have htl:=P.length;by_cases U:its.length<2
 .refine cA9 pl.isList U ?_;obtain⟨e,he⟩:=sortedAll_at s.heap its its.toArray;have Y:=q (s.heap.objs.size+1) (List.range ys.length) (I.hok.fresh (Nat.le_succ _)) (.refl _) (by
   rw[j]
   match its.length,U with
   | 0,_=>simp
   | 1,_=>simp[Bh])
  have M:((List.range ys.length).map λi=>ys.getD i .non)=ys:=by
   refine List.ext_getElem (by simp) λi h1 U=>?_
   simp[List.getD,U]
  rw[M]at Y;exact⟨.ref _,_,I.laid (t':=s.toks) (λb o e=>sortedAll_old e) (Nat.le_succ _) (show ObjOk X.prog X.w _ _ _ (.lst ys) from⟨hz,its,e,J,he⟩),rfl,Y⟩
 .obtain⟨m,B,_⟩:=I.loc;obtain⟨ta,tl⟩:=cW5 I P J;refine cH3 B pl.isList ta tl (by lia) (by lia) λh' D pp c N kp hD M hp hs=>?_
  have R:∀i∈pp,i<ys.length:=λi hi=>by have:=Ab5.mp (hp.mem_iff.mp hi);lia
  have F:=bW1 J R
  obtain⟨HD,I'⟩:=cR4 I B N kp hD M F (by rw[Aa3,hp.length_eq,Cz];lia)
  exact⟨.ref D,_,I',rfl,q D pp HD (by rw[j];exact hp) hs⟩
end
end LV
namespace LV
open PySem L2
section
abbrev lI (l:AD):PyData:=.list (l.map .int)
abbrev tI (l:AD):PyData:=.tuple (l.map .int)
theorem N0:∀l:AD,N8 (l.map .int)=true
 | []=>rfl
 | _::l=>by simp[N8,imm,N0 l]
theorem aY0 {α:Type}{f:α->PyData}(h:∀a,imm (f a)=true):∀l:List α,N8 (l.map f)=true
 | []=>rfl
 | a::l=>by simp[N8,h a,aY0 h l]
theorem dO9 (l:AD):imm (tI l)=true:=by simp[imm,N0 l]
theorem cE4:∀{l:AF},(∀d∈l,imm d=true)->N8 l=true
 | [],_=>rfl
 | a::l,h=>by simp[N8,h a (by simp),cE4 (l:=l) λd hd=>h d (by simp[hd])]
theorem bX9 (i:Int):Fit (.int i):=⟨rfl,by simp[PyData.depth]⟩
def FitN (n:Nat)(d:PyData):Prop:=d.canLay0=true/\d.depth<=n
theorem dP6 (n:Nat)(i:Int):FitN n (.int i):=⟨rfl,by simp[PyData.depth]⟩
theorem bO3:∀{l:AF},(∀d∈l,FitN n d)->PyData.canLayAll0 l=true/\PyData.depthAll l<=n
 | [],_=>⟨rfl,by simp[PyData.depthAll]⟩
 | a::l,h=>by
  obtain⟨h1,h2⟩:=h a (by simp)
  obtain⟨h3,h4⟩:=bO3 (l:=l) λd e=>h d (by simp[e])
  exact⟨by simp[PyData.canLayAll0,h1,h3],by simp only[PyData.depthAll];lia⟩
theorem cI5 (h:∀d∈l,FitN n d):FitN (n+1) (.tuple l):=by
 obtain⟨a,b⟩:=bO3 h;exact⟨by simpa[PyData.canLay0]using a,by simp only[PyData.depth];lia⟩
theorem aK9 (h:∀d∈l,FitN n d):FitN (n+1) (.list l):=by
 obtain⟨a,b⟩:=bO3 h;exact⟨by simpa[PyData.canLay0]using a,by simp only[PyData.depth];lia⟩
theorem FitN.fit (h:FitN n d)(e:n<=32:=by decide):Fit d:=⟨h.1,Bd h.2 e⟩
theorem dJ1 (l:AD):∀d∈l.map PyData.int,FitN 0 d:=λd e=>by
 obtain⟨i,_,rfl⟩:=Aa8.mp e;exact dP6 0 i
theorem V1 (l:AD):FitN 1 (tI l):=cI5 (dJ1 l)
theorem cY0 (w:E K false ta ρ d)(r:E K false tb ρ d')(h1:Fit d)(e:Fit d'):E K m (tOp (bR6 K false) ta tb) ρ (.bool (PyData.eqv d d')):=
 cH9 false false w r λS H x y Q _ j s q=>⟨d,d',j,s,h1,e,q _ H (L2.Same.rf _) (.bl _)⟩
theorem cK0 (w:E K false ta ρ d)(r:E K false tb ρ d')(h1:Fit d)(e:Fit d'):E K m (tOp (bR6 K true) ta tb) ρ (.bool (!PyData.eqv d d')):=
 cH9 false false w r λS H x y Q _ j s q=>⟨d,d',j,s,h1,e,q _ H (L2.Same.rf _) (.bl _)⟩
theorem eF1 (w:E K false ta ρ d)(r:E K false tb ρ d')(j:sq d'=some ds)(h1:Fit d)(e:Fit d'):E K m (tOp (dB7 K false) ta tb) ρ (.bool (ds.any λz=>PyData.eqv z d)):=
 cH9 false false w r λS H x y Q _ s Y q=>⟨d,d',ds,s,Y,j,h1,e,q _ H (L2.Same.rf _) (.bl _)⟩
theorem aX8 (w:E K false ta ρ d)(r:E K false tb ρ d')(j:sq d'=some ds)(h1:Fit d)(e:Fit d'):E K m (tOp (dB7 K true) ta tb) ρ (.bool (!ds.any λz=>PyData.eqv z d)):=
 cH9 false false w r λS H x y Q _ s Y q=>⟨d,d',ds,s,Y,j,h1,e,q _ H (L2.Same.rf _) (.bl _)⟩
theorem bQ6 [DecidableEq α](h:∀a b,PyData.eqv (f a) (f b)=decide (a=b)):∀l l':List α,PyData.eqvAll (l.map f) (l'.map f)=decide (l=l')
 | [],[]=>by simp[PyData.eqvAll]
 | [],_::_=>by simp[PyData.eqvAll]
 | _::_,[]=>by simp[PyData.eqvAll]
 | a::l,b::l'=>by
  simp only[Ac7,PyData.eqvAll,h,bQ6 h l l',Ax];by_cases e:a=b <;> simp[e]
theorem cB8 (a b:Int):PyData.eqv (.int a) (.int b)=decide (a=b):=by
 simp only[PyData.eqv];by_cases h:a=b <;> simp[h]
theorem cX5 (r:Rep K H p (lI l)):∃a,p=.ref a/\SqL K H a (l.map V.int):=by
 cases r with
 | lst s r=>rw[<- r.ints];exact⟨_,rfl,s⟩
theorem eQ3 {t:TA}{l:AD}{M:Int}(Y:A K false t ρ [lI l])(e:M∈l/\∀a∈l,M<=a):E K m (tCB (λxs H Q=>∃(p:Addr) (l:AD),xs=[.ref p]/\SqL K H p (l.map V.int)/\l≠[]/\∀M,M∈l->(∀a∈l,M<=a)->Q (.int M) H) t) ρ (.int M):=dU2 Y λH vs Q r q=>by
 cases r with
 | cons a b=>
  cases b
  obtain⟨p,rfl,s⟩:=cX5 a;refine⟨p,l,rfl,s,List.ne_nil_of_mem e.1,λw h1 j=>?_⟩
  have:w=M:=Int.le_antisymm (j M e.1) (e.2 w h1)
  rw[this];exact q _ λ_=>.int _
abbrev lB (l:List Bool):PyData:=.list (l.map .bool)
theorem dK2 (X:E K false ta ρ (lI l))(U:E K false tb ρ (.int k))(J:k∈l) :
  E K m (tBM K "list" (λx xs H Q=>∃(p:Addr) (l:AD) (k:Int),x=.ref p/\xs=[.int k]/\SqL K H p (l.map V.int)/\k∈l/\Q (.int (l.idxOf k)) H) ta (E7 tb R6)) ρ (.int (l.idxOf k)):=E.bor (E.imm (m:=false) λS B σ H o I Q q=>X S B σ H o I _ λv j e r=>by
 obtain⟨p,rfl,s⟩:=cX5 r;refine⟨.inl ⟨rfl,_,s⟩,?_⟩;refine U S B σ j o (I.grow e) _ λu Y w M=>?_
 cases M
 exact⟨p,l,k,rfl,rfl,Y9 w s,J,q _ Y (L2.Same.tr e w) (.int _)⟩)
theorem aL3 {S:Addr->Prop}{H1:Hp}{p:Addr}{xs:List V}(w:∀b,S b->∃u:HM,H1 b=some u.ho)(hp:H1 p=none)(r:Reps K H1 xs ds)(hi:N8 ds=true):Reps K (hid (λb=>S b\/b=p) (upd H1 p (.lst xs))) xs ds:=
 bP2 (λa Y q=>aH0 (λb z=>by
  rcases z with z | z
  .obtain⟨s,e⟩:=w b z;exact⟨s,by rw[B6 (λj=>by rw[j,hp]at e;cases e)];exact e⟩
  .exact⟨.l xs,by rw[z];exact C4⟩) (aA1 (G0 hp) q)) ds hi r
theorem eE9 {r:List V->Hp->VK->Prop}{t:TA}(j:A K false t ρ ds)(hi:N8 es=true)(s:∀(H:Hp) (vs:List V) (Q:VK),Reps K H vs ds->(∀p xs,H p=none->Reps K H xs es->Q (.ref p) (upd H p (.lst xs)))->r vs H Q):EF K (tCB r t) ρ es:=λS B σ H o I Q q=>
 j S B σ H o I _ λvs w e rs=>s w vs Q rs λp xs hp Y=>q p xs _ (L2.Same.tr e (G0 hp)) (p4 e hp) C4 (aL3 (I.grow e).lists hp Y hi)
theorem z6 {t:TA}(j:A K false t ρ [d])(w:sq d=some ds)(hi:N8 ds=true):EF K (tCB (λxs H Q=>∃p ys,xs=[.ref p]/\(SqL K H p ys\/SqT K H p ys)/\∀l,H l=none->Q (.ref l) (upd H l (.lst ys))) t) ρ ds:=eE9 j hi λH vs Q r q=>by
 cases r with
 | cons a b=>
  cases b
  cases a with
  | lst s r=>cases w;exact⟨_,_,rfl,.inl s,λl e=>q l _ e r⟩
  | tup s r=>cases w;exact⟨_,_,rfl,.inr s,λl e=>q l _ e r⟩
  | _=>cases w
theorem Y8 {t:TA}(w:A K false t ρ [.list ds])(hi:N8 ds=true):E K m (tCB (λxs H Q=>∃p ys,xs=[.ref p]/\((SqL K H p ys/\∀l,H l=none->Q (.ref l) (upd H l (.tup ys)))\/(SqT K H p ys/\Q (.ref p) H))) t) ρ (.tuple ds):=E.bor (E.imm (m:=false) (λS B σ H o I Q q=>w S B σ H o I _ λvs Y j r=>by
 cases r with
 | cons a b=>
  cases b
  cases a with
  | lst s r=>exact⟨_,_,rfl,.inl ⟨s,λl e=>q _ _ (L2.Same.tr j (G0 e)) (.tup (SqT.of C4) (r.mono (G0 e)))⟩⟩) (by simp[imm,hi]))
theorem eF6 {t:TA}{i j:Int}(J:A K false t ρ [.int i,.int j])(M : -(2^62)<=i/\i<2^62 /\ -(2^62)<=j/\j<2^62/\j-i<=1000000) :
  EF K (tCB (λxs H Q=>∃(r:Addr) (i j:Int),xs=[.ref r]/\H r=some (.rng i j)/\(-(2^62)<=i/\i<2^62 /\ -(2^62)<=j/\j<2^62/\j-i<=1000000)/\∀l,H l=none->Q (.ref l) (upd H l (.lst (aQ7 i (j-i).toNat)))) (E7 (eD2 t) R6)) ρ (aG2 i (j-i).toNat):=λS B σ H o I Q q=>
 J S B σ H o I _ λvs N s r=>by
  cases r with
  | cons a b=>
   cases a
   cases b with
   | cons a b=>
    cases a;cases b
    refine⟨i,j,rfl,λp hp=>⟨p,i,j,rfl,C4,M,λl w=>?_⟩⟩
    have e:=G0 (o:=.rng i j) hp
    have U:=G0 (o:=.lst (aQ7 i (j-i).toNat)) w
    refine q l _ _ (L2.Same.tr s (L2.Same.tr e U)) (p4 (L2.Same.tr s e) w) C4 ?_;have Y:aQ7 i (j-i).toNat=((List.range (j-i).toNat).map λ(k:Nat)=>i+(k:Int)).map V.int:=by simp[aQ7]
    have X:aG2 i (j-i).toNat=((List.range (j-i).toNat).map λ(k:Nat)=>i+(k:Int)).map PyData.int:=by simp[aG2]
    rw[Y,X];exact aC6 _
theorem eK0 (Y:E K false ta ρ (.list ds))(hi:N8 ds=true):EF K (cV3 K ta) ρ ds.reverse:=λS B σ H o I Q q=>
 Y S B σ H o I _ λv U j r=>by
  cases r with
  | lst s r=>
   refine⟨_,_,rfl,s,λl w=>q l _ _ (L2.Same.tr j (G0 w)) (p4 j w) C4 (aL3 (I.grow j).lists w r.reverse ?_)⟩
   refine cE4 λd e=>?_
   have:∀{l:AF},N8 l=true->∀d∈l,imm d=true:=λ{l}=>by
    induction l with
    | nil=>simp
    | cons a l X=>intro h d e;simp[N8]at h;rcases Aa1.mp e with rfl | z;exact h.1;exact X h.2 d z
   exact this hi d (Dv.mp e)
end
def OT.kids:OT->List OT
 | .leaf _ | .dic _=>[]
 | .tup ts=>ts
 | .lst ts=>ts
def OT.at:AC->OT->Option OT
 | [],t=>some t
 | k::π,t=>(t.kids[k]?).bind (OT.at π)
def OT.put (t:OT)(π:AC)(u:OT):OT:=match π with
 | []=>u
 | k::π=>match t with
  | .lst ts=>.lst (ts.modify k λt=>OT.put t π u)
  | .tup ts=>.tup (ts.modify k λt=>OT.put t π u)
  | .leaf d=>.leaf d
  | .dic d=>.dic d
theorem OT.put_nil {t u:OT}:t.put [] u=u:=by rw[OT.put]
theorem OT.put_lst:(OT.lst ts).put (k::π) u=.lst (ts.modify k λt=>OT.put t π u):=by rw[OT.put]
theorem OT.put_tup:(OT.tup ts).put (k::π) u=.tup (ts.modify k λt=>OT.put t π u):=by rw[OT.put]
section
theorem Y1:∀{l:List α} {k:Nat} {a:α},l[k]? = some a->l.modify k f=l.set k (f a)
 | [],k,a,h=>by simp at h
 | b::l,0,a,h=>by simp at h;subst h;rfl
 | b::l,k+1,a,h=>by
  have:=Y1 (f:=f) (l:=l) (k:=k) (a:=a) (by simpa using h)
  simpa using this
theorem cN2:∀{ts:List OT} {xs:List V} {L:AL} {k:Nat} {t:OT},Dps K Z H xs ts L->ts[k]? = some t->∃v L1 L2 L3,xs[k]? = some v/\Dp K Z H v t L2/\L=L1++L2++L3 /\
  ∀(Z' H':Hp) (t':OT) (L2':AL),Same Z Z'->(∀a xs,Rd H a (.tup xs)->Rd H' a (.tup xs))->(∀b,b∈L1\/b∈L3->H' b=H b)->Dp K Z' H' v t' L2'->Dps K Z' H' xs (ts.set k t') (L1++L2'++L3)
 | [],_,_,_,_,r,h=>by simp at h
 | t::ts,_,_,0,_,r,h=>by
  simp at h;subst h
  cases r with
  | @cons v _ vs _ La Lb a b=>
   refine⟨v,[],La,Lb,rfl,a,rfl,λZ' H' t' L2' hz ht hl r=>?_⟩
   simpa using Dps.cons r (aC4 hz ht ts (λb hb=>hl b (.inr hb)) b)
 | t::ts,_,_,k+1,t1,r,h=>by
  cases r with
  | @cons v _ vs _ La Lb a b=>
   obtain⟨w,L1,L2,L3,h1,h2,h3,h4⟩:=cN2 (k:=k) (t:=t1) b (by simpa using h)
   refine⟨w,La++L1,L2,L3,by simpa using h1,h2,by rw[h3];simp,λZ' H' t' L2' hz ht hl r=>?_⟩
   have:=Dps.cons (aP1 hz ht t (λb hb=>hl b (.inl (by simp[hb]))) a) (h4 Z' H' t' L2' hz ht (λb hb=>hl b (by rcases hb with hb | hb <;> simp[hb])) r)
   simpa using this
theorem dW2 {t:OT}{v:V}{L:AL}{k:Nat}{t1:OT}(r:Dp K Z H v t L)(h:t.kids[k]? = some t1):(∃a xs ts M,v=.ref a/\t=.tup ts/\SqT K H a xs/\Dps K Z H xs ts L/\ts[k]? = some t1/\M=L)\/∃a xs ts M,v=.ref a/\t=.lst ts/\H a=some (.lst xs)/\Dps K Z H xs ts M/\ts[k]? = some t1/\L=a::M:=by
 cases r with
 | leaf r=>simp[OT.kids]at h
 | dic _ _ _ _=>simp[OT.kids]at h
 | tup s r=>exact .inl ⟨_,_,_,_,rfl,rfl,s,r,h,rfl⟩
 | lst s r=>exact .inr ⟨_,_,_,_,rfl,rfl,s,r,h,rfl⟩
def Foc (K:Frag)(Z H:Hp)(v0:V)(t0:OT)(L0:AL)(π:AC)(v:V)(t:OT):Prop:=
 ∃L A C,Dp K Z H v t L/\L0=A++L++C/\∀(Z' H':Hp) (t':OT) (L':AL),Same Z Z'->(∀a xs,Rd H a (.tup xs)->Rd H' a (.tup xs))->(∀b,b∈A\/b∈C->H' b=H b)->Dp K Z' H' v t' L'->Dp K Z' H' v0 (t0.put π t') (A++L'++C)
theorem Foc.root (r:Dp K Z H v0 t0 L0):Foc K Z H v0 t0 L0 [] v0 t0:=
 ⟨L0,[],[],r,by simp,λj w s L' _ _ _ e=>by rw[OT.put_nil];simpa using e⟩
theorem Foc.mono (f:Foc K Z H v0 t0 L0 π v t)(X:Same Z Z')(Y:∀a xs,Rd H a (.tup xs)->Rd H' a (.tup xs))(s:∀b∈L0,H' b=H b):Foc K Z' H' v0 t0 L0 π v t:=by
 obtain⟨L,A,C,h1,e,M⟩:=f;refine⟨L,A,C,aP1 X Y t (λb hb=>s b (by rw[e];simp[hb])) h1,e,λJ U R L' j r w N=>M J U R L' (L2.Same.tr X j) (λa xs z=>r a xs (Y a xs z)) (λb hb=>?_) N⟩
 rw[w b hb];exact s b (by rw[e];rcases hb with hb | hb <;> simp[hb])
theorem aU3 {u t1:OT}{k:Nat}:∀{π:AC} {t0 t:OT},t0.at π=some t->t0.put π (t.put [k] u)=t0.put (π++[k]) u
 | [],t0,t,h=>by cases h;rw[OT.put_nil];rfl
 | j::π,t0,t,h=>by
  unfold OT.at at h;cases e:t0.kids[j]? with
  | none=>rw[e]at h;cases h
  | some t1=>
   rw[e]at h;have h:t1.at π=some t:=h;cases t0 with
   | leaf d=>simp[OT.kids]at e
   | dic d=>simp[OT.kids]at e
   | lst ts=>
    have e:ts[j]? = some t1:=e
    rw[Ab6,OT.put_lst,OT.put_lst,Y1 e,Y1 e,aU3 (t1:=t1) h]
   | tup ts=>
    have e:ts[j]? = some t1:=e
    rw[Ab6,OT.put_tup,OT.put_tup,Y1 e,Y1 e,aU3 (t1:=t1) h]
theorem bD2 {k:Nat}:∀{π:AC} {t0 t:OT},t0.at π=some t->t0.at (π++[k])=t.kids[k]?
 | [],t0,t,h=>by
  cases h
  show(t0.kids[k]?).bind (OT.at [])=_
  cases t0.kids[k]? <;> rfl
 | j::π,t0,t,h=>by
  unfold OT.at at h;rw[Ab6];show(t0.kids[j]?).bind (OT.at (π++[k]))=_;cases e:t0.kids[j]? with
  | none=>rw[e]at h;cases h
  | some w=>
   rw[e]at h;exact bD2 (π := π) (t0:=w) h
theorem Foc.down {v0 v:V}{t0 t t1:OT}{L0:AL}{π:AC}{k:Nat}(f:Foc K Z H v0 t0 L0 π v t)(ha:t0.at π=some t)(h:t.kids[k]? = some t1) :
  ∃a xs u,v=.ref a/\(SqL K H a xs\/SqT K H a xs)/\xs[k]? = some u/\Foc K Z H v0 t0 L0 (π++[k]) u t1:=by
 obtain⟨L,A,C,h1,h2,h3⟩:=f;rcases dW2 h1 h with⟨a,xs,ts0,M,rfl,rfl,s,P,e,rfl⟩ | ⟨a,xs,ts0,M,rfl,rfl,s,P,e,rfl⟩
 .obtain⟨u,U,L2,J,N,R,Q,F⟩:=cN2 P e;refine⟨a,xs,u,rfl,.inr s,N,L2,A++U,J++C,R,by rw[h2,Q];simp,λY j t' L' X r w B=>?_⟩
  have:=h3 Y j _ _ X r (λb hb=>w b (by rcases hb with hb | hb <;> simp[hb])) (Dp.tup (s.imp (r _ _) id) (F Y j t' L' X r (λb hb=>w b (by rcases hb with hb | hb <;> simp[hb])) B))
  rw[<- aU3 (t1:=t1) ha,OT.put_tup,Y1 e,OT.put_nil];simpa using this
 .obtain⟨u,U,L2,J,N,R,Q,F⟩:=cN2 P e;refine⟨a,xs,u,rfl,.inl (SqL.of s),N,L2,A++a::U,J++C,R,by rw[h2,Q];simp,λY j t' L' X r w B=>?_⟩
  have:=h3 Y j _ _ X r (λb hb=>w b (by rcases hb with hb | hb <;> simp[hb])) (Dp.lst (by rw[w a (by simp)];exact s) (F Y j t' L' X r (λb hb=>w b (by rcases hb with hb | hb <;> simp[hb])) B))
  rw[<- aU3 (t1:=t1) ha,OT.put_lst,Y1 e,OT.put_nil];simpa using this
end
section
def EFT (K:Frag)(t:TE)(ρ:List Sl)(u:OT):Prop:=
 ∀(S:Addr->Prop) (B:Hp) (σ:St) (H:Hp) (o:Nat->AL),Env K S B H σ ρ o->∀Q:VK,
  (∀v L H',Same H H'->(∀b∈L,H b=none)->L.Nodup->Dp K (hid (λb=>F1 ρ o S b\/b∈L) H') H' v u L->Q v H')->t σ H Q
def AFT (K:Frag)(t:TA)(ρ:List Sl)(us:List OT):Prop:=
 ∀(S:Addr->Prop) (B:Hp) (σ:St) (H:Hp) (o:Nat->AL),Env K S B H σ ρ o->∀Q:List V->Hp->Prop,
  (∀vs L H',Same H H'->(∀b∈L,H b=none)->L.Nodup->Dps K (hid (λb=>F1 ρ o S b\/b∈L) H') H' vs us L->Q vs H')->t σ H Q
theorem cD1:Same (hid S H) (hid (λb=>S b\/b∈([]:AL)) H):=K3 (L2.Same.rf _) λb z _=>z.elim id λz=>nomatch z
theorem bU8 (h:E K true t ρ d):EFT K t ρ (.leaf d):=λS B σ H o I Q q=>h S B σ H o I _ λv e s r=>
 q v [] e s (λ_ z=>nomatch z) .nil (.leaf (r.mono cD1))
theorem bJ7:∀{us:List OT} {vs:List V} {L:AL},Dps K Z H vs us L->vs.length=us.length
 | [],_,_,r=>by cases r;rfl
 | u::us,_,_,r=>by cases r with | cons a b=>simp[bJ7 b]
theorem N7:AFT K R6 ρ []:=λS B σ H o I Q q=>q [] [] H (L2.Same.rf _) (λ_ z=>nomatch z) .nil .nil
theorem Dps.mono (r:Dps K Z H vs us L)(j:Same Z Z')(h:Same H H'):Dps K Z' H' vs us L:=
 aC4 j (λ_ _=>aA1 h) us (λb w=>by obtain⟨xs,e⟩:=aB9 us r b w;rw[e];exact h _ _ e) r
theorem Env.hide {S:Addr->Prop}{B H H1:Hp}{σ:St}{o:Nat->AL}{L:AL}(I:Env K S B H σ ρ o)(s:Same H H1)(n:∀b∈L,H b=none)(l:∀b∈L,∃u:HM,H1 b=some u.ho) :
  Env K (λb=>S b\/b∈L) (hid (dS0 ρ o) H1) H1 σ ρ o:=by
 obtain⟨J,U⟩:=(I.grow s).rebase;have g:Same (hid (F1 ρ o S) H) (hid (F1 ρ o λb=>S b\/b∈L) H1):=K3 s λb z k=>by
  rcases z with (z | z) | z
  .exact .inl z
  .exact absurd (n b z) k
  .exact .inr z
 refine⟨I.len,X1,λb z=>?_,J.new,I.inj,λi ds h=>?_,λi d h=>?_,λi d h=>?_,λi t h=>?_⟩
 .rcases z with z | z
  .exact J.sl b z
  .obtain⟨xs,e⟩:=l b z;refine⟨xs,hid_some.mpr ⟨λ⟨i,x,h,X,Y⟩=>?_,e⟩⟩
   obtain⟨M,e'⟩:=I.lists b (.inr ⟨i,x,h,X,Y⟩);rw[n b z]at e';cases e'
 .obtain⟨p,h1,w,xs,r,j⟩:=I.own i ds h;exact⟨p,h1,w,xs,s _ _ r,j.mono g⟩
 .obtain⟨v,h1,w⟩:=I.val i d h;exact⟨v,h1,w.mono g⟩
 .obtain⟨v,h1,w⟩:=I.bor i d h;exact⟨v,h1,w.mono s⟩
 .obtain⟨nd,v,h1,w⟩:=I.tr i t h;exact⟨nd,v,h1,w.mono g s⟩
theorem dW7 {o:Nat->AL}{S:Addr->Prop}{L:AL}{b:Addr}:F1 ρ o (λb=>S b\/b∈L) b↔F1 ρ o S b\/b∈L:=by
 constructor
 .rintro ((z | z) | z)
  .exact .inl (.inl z)
  .exact .inr z
  .exact .inl (.inr z)
 .rintro ((z | z) | z)
  .exact .inl (.inl z)
  .exact .inr z
  .exact .inl (.inr z)
theorem M3 (w:EFT K ta ρ u)(R:AFT K tr ρ us):AFT K (E7 ta tr) ρ (u::us):=λS B σ H o I Q q=>
 w S B σ H o I _ λx La U s X M j=>R _ _ σ U o (I.hide s X (aL9 u j)) _ λxs Lb J Y r N P=>by
  have F:=aL9 u j
  refine q (x::xs) (La++Lb) J (L2.Same.tr s Y) (λb hb=>?_) ?_ (.cons (j.mono ?_ Y) (P.mono ?_ (L2.Same.rf _)))
  .rcases Aa0.mp hb with hb | hb
   .exact X b hb
   .exact p4 s (r b hb)
  .refine Aa4.mpr ⟨M,N,λa w b hb e=>?_⟩
   subst e;obtain⟨xs,e⟩:=F a w;rw[r a hb]at e;cases e
  .refine K3 Y λb z k=>?_
   rcases z with z | z
   .exact .inl z
   .rcases Aa0.mp z with z | z
    .exact .inr z
    .exact absurd (r b z) k
  .refine K3 (L2.Same.rf _) λb z _=>?_
   rw[dW7];rcases z with z | z
   .exact .inl (.inl z)
   .rcases Aa0.mp z with z | z
    .exact .inl (.inr z)
    .exact .inr z
theorem bJ6 {t:TA}(h:AFT K t ρ us)(e:us.length<=sizeLine:=by first | decide | (unfold sizeLine;simp)):EFT K (cS5 t) ρ (.tup us):=λS B σ H o I Q q=>h S B σ H o I _ λxs L j w n d r=>
 ⟨by rw[bJ7 r];exact e,λp hp=>by
  have g:=G0 (o:=.tup xs) hp
  exact q _ L _ (L2.Same.tr w g) n d (.tup (SqT.of C4) (r.mono (L7 g) g))⟩
theorem R7 {t:TA}(h:AFT K t ρ us)(j:us.length<=sizeLine:=by first | decide | (unfold sizeLine;simp)):EFT K (dK1 t) ρ (.lst us):=λS B σ H o I Q q=>h S B σ H o I _ λxs L s w n d r=>
 ⟨by rw[bJ7 r];exact j,λp hp=>by
  have g:=G0 (o:=.lst xs) hp
  refine q _ (p::L) _ (L2.Same.tr w g) (λb hb=>?_) (Aa5.mpr ⟨λz=>?_,d⟩) (.lst C4 (r.mono ?_ g))
  .rcases Aa1.mp hb with rfl | hb
   .exact p4 w hp
   .exact n b hb
  .obtain⟨Y,e⟩:=aB9 us r p z;rw[hp]at e;cases e
  .refine K3 g λb z k=>?_
   rcases z with z | z
   .exact .inl z
   .rcases Aa1.mp z with rfl | z
    .exact absurd hp k
    .exact .inr z⟩
theorem cR7 (h:EFT K t ρ u)(w:R.nx (ρ.set i (.tr u)))(hi:i<ρ.length:=by first | decide | (simp;done) | (simp[LV.sl0];done)):W K (u8 t (M8 i)) ρ R:=λS B D σ H o I s=>
 h S B σ H o I _ λv L e j n d r=>s.nx _ _ e _ (I.put i hi (λ_=>False) (λ_ z=>z.elim) (λb y q _=>j b y q) (λb z=>.inr (n b z)) (.inr ⟨u,rfl,d,r⟩) (.inl λ_ z=>z)) w
def AtP (K:Frag)(t:TE)(ρ:List Sl)(i:Nat)(π:AC):Prop:=
 ∀(S:Addr->Prop) (B:Hp) (σ:St) (H:Hp) (o:Nat->AL),Env K S B H σ ρ o->∀(u0 u:OT),ρ[i]? = some (.tr u0)->u0.at π=some u->∀Q:VK,
  (∀v0 v H',Same H H'->σ[i]? = some (some v0)->Foc K (hid (F1 ρ o S) H') H' v0 u0 (o i) π v u->Q v H')->t σ H Q
theorem aT8:AtP K (C7 i) ρ i []:=λS B σ H o I w u h e Q q=>by
 cases e
 obtain⟨_,v,a,b⟩:=I.tr i w h;exact⟨v,a,q v v H (L2.Same.rf _) a (Foc.root b)⟩
theorem Foc.grow {Z Z' H H':Hp}{v0 v:V}{L0:AL}{π:AC}(f:Foc K Z H v0 u0 L0 π v u)(l:∀b∈L0,∃u:HM,H b=some u.ho)(r:Same Z Z')(h:Same H H'):Foc K Z' H' v0 u0 L0 π v u:=
 f.mono r (λ_ _=>aA1 h) λb w=>by obtain⟨xs,e⟩:=l b w;rw[e];exact h _ _ e
theorem Env.trL {S:Addr->Prop}{B H:Hp}{σ:St}{o:Nat->AL}{i:Nat}(I:Env K S B H σ ρ o)(h:ρ[i]? = some (.tr u0)):∀b∈o i,∃u:HM,H b=some u.ho:=λb e=>I.lists b (.inr ⟨i,_,h,rfl,e⟩)
theorem bA3 {i:Nat}{π:AC}{k:Int}(n:Nat)(hp:AtP K ta ρ i π)(M:E K false tb ρ (.int k))(R:k=n)(N:∀u0,ρ[i]? = some (.tr u0)->∃u,u0.at π=some u):AtP K (tOp (rIx K) ta tb) ρ i (π++[n]):=λS B σ H o I u0 P h U Q q=>by
 obtain⟨u,j⟩:=N u0 h;rw[bD2 j]at U;refine hp S B σ H o I u0 u h j _ λv0 v J s a f=>?_
 refine M S B σ J o (I.grow s) _ λw X Y r=>?_
 cases r
 have f2:=f.grow ((I.grow s).trL h) (L7 Y) Y
 obtain⟨p,xs,x,rfl,hs,F,f3⟩:=f2.down j U;have e:=S1 n R F;rcases hs with hs | hs
 .exact .inl ⟨p,xs,k,x,rfl,rfl,hs,e,q v0 x X (L2.Same.tr s Y) a f3⟩
 .exact .inr (.inl ⟨p,xs,k,x,rfl,rfl,hs,e,q v0 x X (L2.Same.tr s Y) a f3⟩)
end
section
theorem bP4 (I:Env K S B H σ ρ o)(hi:ρ[i]? = some (.tr u0))(hv:σ[i]? = some (some v0))
  (f:Foc K (hid (F1 ρ o S) H) H v0 u0 (o i) π (.ref p) (.lst us)) (s:Same H H2) (hN:∀b∈Lx,H b=none) (dx:Lx.Nodup) (rx:Dp K (hid (λb=>F1 ρ o S b\/b∈Lx) H2) H2 x u Lx)
  (nb:∀(j:Nat) (d:PyData),ρ[j]?≠some (Sl.bor d)) (U:List V->List V) (Y:List OT)
  (hc:∀(xs:List V) (M:AL) (Z' H':Hp),Dps K Z' H' xs us M->Dp K Z' H' x u Lx->∃M',Dps K Z' H' (U xs) Y M'/\((M++Lx).Nodup->M'.Nodup)/\∀b∈M',b∈M++Lx) :
  ∃xs,H2 p=some (.lst xs)/\xs.length=us.length/\∃o',Env K S B (upd H2 p (.lst (U xs))) σ (ρ.set i (.tr (u0.put π (.lst Y)))) o':=by
 obtain⟨nd,v0',hv',r0⟩:=I.tr i u0 hi;obtain⟨L,A,C,h1,P,h3⟩:=f;cases h1 with
 | @lst _ xs _ M hp r=>
 have hlt:i<ρ.length:=(Ab0.mp hi).1
 have oi:∀b∈o i,dA1 ρ o i b:=λb hb=>⟨_,hi,rfl,hb⟩
 have os:∀b∈o i,F1 ρ o S b:=λb hb=>.inr ⟨i,_,hi,rfl,hb⟩
 have N:p∈o i:=by rw[P];simp
 have w:∀b,(b∈A\/b∈M\/b∈C)->b∈o i/\b≠p:=λb hb=>by
  rw[P]at nd ⊢;refine⟨by rcases hb with hb | hb | hb <;> simp[hb],λe=>?_⟩
  subst e;simp only[Aa4,Aa5,Ab6,Aa0,Aa1,Ad7]at nd;grind
 have lst:=I.trL hi
 have up:∀b,b∈o i->b≠p->upd H2 p (.lst (U xs)) b=H b:=λb hb hne=>by
  rw[B6 hne];obtain⟨X,e⟩:=lst b hb;rw[e];exact s _ _ e
 have tk:∀a X,Rd H2 a (.tup X)->Rd (upd H2 p (.lst (U xs))) a (.tup X):=λa X q=>by
  have n:a≠p:=λe=>by
   subst e
   have:=s _ _ hp
   rcases q with q | ⟨o,q⟩ <;> rw[this]at q <;> cases q
  rcases q with q | ⟨o,q⟩
  .exact .inl (by rw[B6 n];exact q)
  .exact .inr ⟨o,by rw[B6 n];exact q⟩
 have z1:Same (hid (F1 ρ o S) H) (hid (λb=>F1 ρ o S b\/b∈Lx) (upd H2 p (.lst (U xs)))):=λb y q=>by
  obtain⟨Q,F⟩:=hid_some.mp q;refine hid_some.mpr ⟨λz=>z.elim Q λz=>(by rw[hN b z]at F;cases F),?_⟩
  rw[B6 (λe=>Q (os b (by rw[e];exact N)))]
  exact s _ _ F
 have z2:Same (hid (λb=>F1 ρ o S b\/b∈Lx) H2) (hid (λb=>F1 ρ o S b\/b∈Lx) (upd H2 p (.lst (U xs)))):=λb y q=>by
  obtain⟨Q,F⟩:=hid_some.mp q;refine hid_some.mpr ⟨Q,?_⟩;rw[B6 (λe=>Q (.inl (os b (by rw[e];exact N))))]
  exact F
 have pN:p∉Lx:=λz=>by rw[hN p z]at hp;cases hp
 obtain⟨M',c1,c2,c3⟩:=hc xs M _ _ (aC4 z1 (λa X q=>tk a X (aA1 s q)) us (λb hb=>up b (w b (.inr (.inl hb))).1 (w b (.inr (.inl hb))).2) r)
  (aP1 z2 tk u (λb hb=>by rw[B6 (λe=>pN (by rw[<- e];exact hb))]) rx)
 have fin:=h3 _ _ (.lst Y) (p::M') z1 (λa X q=>tk a X (aA1 s q)) (λb hb=>up b (w b (by rcases hb with hb | hb <;> simp[hb])).1 (w b (by rcases hb with hb | hb <;> simp[hb])).2) (.lst C4 c1)
 have R:∀b∈Lx,b∉o i:=λb hb hb'=>by
  obtain⟨X,e⟩:=lst b hb';rw[hN b hb]at e;cases e
 have mem:∀b∈A++p::M'++C,b∈o i\/b∈Lx:=λb hb=>by
  rw[P]
  have:=c3 b
  simp only[Aa0,Aa1]at hb this ⊢;grind
 have J:(A++p::M'++C).Nodup:=by
  rw[P]at nd R;simp only[Aa4,Aa5,Ab6,Aa0,Aa1,Ad7]at nd R c2 c3 ⊢;grind
 refine⟨xs,s _ _ hp,bJ7 r,cC1 o i (A++p::M'++C),?_⟩
 have:=I.put (H':=upd H2 p (.lst (U xs))) (v:=v0) (x:=.tr (u0.put π (.lst Y))) (L:=A++p::M'++C) i hlt (λb=>b=p) (λb z=>by rw[z];exact oi p N) (λb y q z=>by rw[B6 z];exact s _ _ q)
  (λb hb=>(mem b hb).imp (oi b) (hN b))
  (.inr ⟨_,rfl,J,fin.mono (K3 (L2.Same.rf _) λb z _=>z.elim .inl λz=>(mem b z).elim (λz=>.inl (os b z)) .inr) (L2.Same.rf _)⟩) (.inr nb)
 rw[bL5 hv]at this;exact this
theorem bN5:∀{us:List OT} {xs:List V} {M:AL},Dps K Z H xs us M->Dp K Z H x u Lx->Dps K Z H (xs++[x]) (us++[u]) (M++Lx)
 | [],_,_,r,h=>by cases r;simpa using Dps.cons h .nil
 | a::us,_,_,r,h=>by
  cases r with
  | @cons v _ vs _ La Lb r1 r2=>
   have:=Dps.cons r1 (bN5 r2 h)
   simpa using this
theorem aD2 {i:Nat}{π:AC}{R:AE}(hp:AtP K ta ρ i π)(hi:ρ[i]? = some (.tr u0))(P:u0.at π=some (.lst us))(N:EFT K tb ρ u)(Q:us.length<sizeLine)(F:R.nx (ρ.set i (.tr (u0.put π (.lst (us++[u]))))))(nb:i7 ρ=true:=by rfl) :
  W K (aE0 (tBM K "list" bA4 ta (E7 tb R6))) ρ R:=λS B D σ H o I s=>by
 refine hp S B σ H o I u0 _ hi P _ λv0 v w e a f=>?_
 have ⟨L,A,C,f1,f2,f3⟩:=f
 cases f1 with
 | @lst p xs _ M hpp r=>
 refine⟨.inl ⟨rfl,_,SqL.of hpp⟩,?_⟩;refine N S B σ w o (I.grow e) _ λx j H2 s2 n d rx=>?_
 obtain⟨ys,Y,X,o',J⟩:=bP4 (I.grow e) hi a f s2 n d rx (O8 nb) (λxs=>xs++[x]) (us++[u]) λxs M Z' H' r1 r2=>⟨M++j,bN5 r1 r2,λh=>h,λb U=>U⟩
 exact⟨p,ys,x,rfl,rfl,Y,by rw[X];exact Q,s.nx _ σ _ o' J F⟩
theorem cU3:∀{us:List OT} {xs:List V} {M:AL} {n:Nat},Dps K Z H xs us M->Dp K Z H x u []->∃M',Dps K Z H (xs.set n x) (us.set n u) M'/\(M.Nodup->M'.Nodup)/\∀b∈M',b∈M
 | [],_,_,n,r,h=>by cases r;exact⟨[],.nil,id,λ_ z=>z⟩
 | a::us,_,_,0,r,h=>by
  cases r with
  | @cons v _ vs _ La Lb r1 r2=>exact⟨Lb,by simpa using Dps.cons h r2,λz=>(Aa4.mp z).2.1,λb hb=>by simp[hb]⟩
 | a::us,_,_,n+1,r,h=>by
  cases r with
  | @cons v _ vs _ La Lb r1 r2=>
   obtain⟨M',h1,h2,h3⟩:=cU3 (n:=n) r2 h;refine⟨La++M',Dps.cons r1 h1,λz=>?_,λb hb=>?_⟩
   .obtain⟨w,j,s⟩:=Aa4.mp z;exact Aa4.mpr ⟨w,h2 j,λa e b hb=>s a e b (h3 b hb)⟩
   .rcases Aa0.mp hb with hb | hb
    .simp[hb]
    .simp[h3 b hb]
theorem eJ4 (n:Nat)(he:E K true t ρ d)(hp:AtP K ta ρ i π)(hk:E K false tb ρ (.int k))(e:k=n)(hn':n<us.length)(hi:ρ[i]? = some (.tr u0))(hu:u0.at π=some (.lst us))(hn:R.nx (ρ.set i (.tr (u0.put π (.lst (us.set n (.leaf d)))))))(nb:i7 ρ=true:=by rfl) :
  W K (u8 t (dZ5 ta tb cU5)) ρ R:=λS B D σ H o I s=>by
 refine he S B σ H o I _ λx N Y rx=>?_
 refine hp S B σ N o (I.grow Y) u0 _ hi hu _ λv0 v Q X a f=>?_
 have ⟨L,A,C,f1,f2,f3⟩:=f
 cases f1 with
 | @lst p xs _ M hpp r=>
 refine hk S B σ Q o ((I.grow Y).grow X) _ λw H2 U j=>?_
 cases j
 obtain⟨ys,P,e2,o',J⟩:=bP4 (x:=x) (u:=.leaf d) (Lx:=[]) ((I.grow Y).grow X) hi a f U (λb z=>nomatch z) .nil (.leaf (rx.mono (L2.Same.tr (L7 (L2.Same.tr X U)) cD1))) (O8 nb) (λxs=>xs.set n x) (us.set n (.leaf d)) λxs M Z' H' r1 r2=>by
  obtain⟨F,g1,g2,g3⟩:=cU3 (n:=n) r1 r2;exact⟨F,g1,λh=>g2 (by simpa using h),λb hb=>by simpa using g3 b hb⟩
 exact⟨p,ys,k,n,rfl,rfl,P,by unfold ixN;rw[Ac (by lia),Ac (by lia)];simp[e],s.nx _ σ _ o' J hn⟩
def EX (K:Frag)(t:TE)(ρ:List Sl)(j:Nat)(d:PyData)(ρ':List Sl):Prop:=
 ∀(S:Addr->Prop) (B:Hp) (σ:St) (H:Hp) (o:Nat->AL),Env K S B H σ ρ o->∀Q:VK,(∀v H' o',Env K S B H' σ ρ' o'->(∀k,k≠j->o' k=o k)->(∀b y,H b=some y->b∉o j->H' b=some y)->(∀b∈o j,∃u:HM,H b=some u.ho) ->
  Same (hid (F1 ρ o S) H) (hid (F1 ρ' o' S) H')->Rep K (hid (F1 ρ' o' S) H') v d->Q v H')->t σ H Q
theorem cR2 (w:ρ[j]? = some (.own (ds++[d])))(nb:i7 ρ=true:=by rfl):EX K (eJ5 K "list" eI0 (C7 j)) ρ j d (ρ.set j (.own ds)):=λS B σ H o I Q q=>by
 obtain⟨p,hp,a,xs,b,c⟩:=I.own j _ w;have M:=c.length;obtain⟨y,h1,X⟩:=c.get' (i:=ds.length) (d:=d) (by simp)
 refine⟨_,a,.inl ⟨rfl,xs,SqL.of b⟩,_,xs,y,rfl,rfl,b,by rw[M];simpa using h1,?_⟩
 have s:=c.dropLast
 rw[List.dropLast_concat]at s;have Y:=I.upd w hp s (O8 nb);have g:=cB2 (S:=S) (H:=H) (xs:=xs.dropLast) (es:=ds) w hp;exact q y _ _ Y (λk J=>Z9 (Ne.symm J)) (λr x e n=>by rw[B6 (λz=>n (by rw[hp,z];simp))];exact e) (λr U=>I.lists r (.inr ⟨j,_,w,rfl,U⟩)) g (X.mono g)
theorem dE2 (n:Nat)(X:ρ[j]? = some (.own ds))(U:E K false tb ρ (.int k))(J:k=n)(hn:ds[n]? = some d)(R:n<2^63)(nb:i7 ρ=true:=by rfl):EX K (tBM K "list" dM1 (C7 j) (E7 tb R6)) ρ j d (ρ.set j (.own (ds.eraseIdx n))):=λS B σ F o Y Q q=>by
 obtain⟨p,hp,a,xs,N,c0⟩:=Y.own j _ X;refine⟨_,a,.inl ⟨rfl,xs,SqL.of N⟩,?_⟩;refine U S B σ F o Y _ λw H s r=>?_
 cases r
 have I:=Y.grow s
 have b:=s _ _ N
 have c:=c0.mono (L7 s)
 obtain⟨y,h1,h2⟩:=c.get' hn;have hl:=(Ab0.mp h1).1;refine⟨_,xs,k,n,y,rfl,rfl,b,by lia,by lia,(bZ6 (by unfold ixN;rw[Ac (by lia),Ac (by lia)];simp[J])).1,h1,?_⟩
 have P:=I.upd X hp (c.eraseIdx n) (O8 nb)
 have g:=cB2 (S:=S) (H:=H) (xs:=xs.eraseIdx n) (es:=ds.eraseIdx n) X hp
 exact q y _ _ P (λk U=>Z9 (Ne.symm U)) (λM x e m=>by rw[B6 (λz=>m (by rw[hp,z];simp))];exact s _ _ e) (λM R=>Y.lists M (.inr ⟨j,_,X,rfl,R⟩)) (L2.Same.tr (L7 s) g) (h2.mono g)
theorem bE1 (F:EX K t ρ j d ρ')(hi:ρ[i]? = some (.own ds))(e:ρ'[i]? = some (.own ds))(N:ds.length<sizeLine)(Q:R.nx (ρ'.set i (.own (ds++[d]))))(nb:i7 ρ'=true:=by rfl) :
  W K (aE0 (tBM K "list" bA4 (C7 i) (E7 t R6))) ρ R:=λS B D σ H o I s=>by
 obtain⟨p,hp,a,xs,b,c⟩:=I.own i ds hi;refine⟨_,a,.inl ⟨rfl,xs,SqL.of b⟩,?_⟩;refine F S B σ H o I _ λv P o' X _ _ _ _ r=>?_
 obtain⟨p',w,U,Y,M,J⟩:=X.own i ds e;rw[a]at U;cases U;refine⟨_,Y,v,rfl,rfl,M,by rw[J.length];exact N,?_⟩
 exact s.nx _ σ _ _ (X.upd e w (J.append (.cons r .nil)) (O8 nb)) Q
theorem cQ7 {i j:Nat}{π:AC}{R:AE}(hp:AtP K ta ρ i π)(hx:EX K t ρ j d ρ')(w:i≠j)(hj:∃x,ρ[j]? = some x/\x.os=true)(hi:ρ[i]? = some (.tr u0))(X:ρ'[i]? = some (.tr u0))(hu:u0.at π=some (.lst us))(hl:us.length<sizeLine)(hn:R.nx (ρ'.set i (.tr (u0.put π (.lst (us++[.leaf d]))))))(nb:i7 ρ'=true:=by rfl) :
  W K (aE0 (tBM K "list" bA4 ta (E7 t R6))) ρ R:=λS B D σ H o I s=>by
 refine hp S B σ H o I u0 _ hi hu _ λv0 v H1 s1 a f=>?_
 have ⟨L,A,C,f1,f2,f3⟩:=f
 cases f1 with
 | @lst p xs _ M hpp r=>
 refine⟨.inl ⟨rfl,_,SqL.of hpp⟩,?_⟩;refine hx S B σ H1 o (I.grow s1) _ λx H2 o' I' ho U N hz rx=>?_
 obtain⟨y,Q,F⟩:=hj;have P:=f.mono hz (H':=H2) (λa ys q=>by
  have n:a∉o j:=λz=>by
   obtain⟨zs,e⟩:=N a z;rcases q with q | ⟨o,q⟩ <;> rw[e]at q <;> replace q:=Ab4 q
   .exact HM.nt q
   .exact HM.nf q
  rcases q with q | ⟨o,q⟩
  .exact .inl (U _ _ q n)
  .exact .inr ⟨o,U _ _ q n⟩) λb Y=>by
   obtain⟨zs,e⟩:=(I.grow s1).trL hi b Y;rw[e];exact U _ _ e λz=>w (I.inj i j _ y hi Q rfl F b Y z)
 rw[<- ho i w]at P;obtain⟨ys,e1,e2,o2,J⟩:=bP4 (x:=x) (u:=.leaf d) (Lx:=[]) I' X a P (L2.Same.rf _) (λb z=>nomatch z) .nil (.leaf (rx.mono cD1)) (O8 nb) (λxs=>xs++[x]) (us++[.leaf d]) λxs M Z' H' r1 r2=>⟨M++[],bN5 r1 r2,λh=>h,λb Y=>Y⟩
 exact⟨p,ys,x,rfl,rfl,e1,by rw[e2];exact hl,s.nx _ σ _ o2 J hn⟩
theorem Env.frz {S:Addr->Prop}{B H:Hp}{σ:St}{o:Nat->AL}{i:Nat}{x:Sl}(I:Env K S B H σ ρ o)(hi:ρ[i]? = some x)(R:x=.own ds/\d=.list ds\/∃u,x=.tr u/\d=u.data):Env K S B H σ (ρ.set i (.val d)) o:=by
 have r:x.os=true:=by rcases R with⟨rfl,_⟩ | ⟨u,rfl,_⟩ <;> rfl
 have J:i<ρ.length:=(Ab0.mp hi).1
 have at_:∀{j:Nat} {y:Sl},y≠.val d->(ρ.set i (.val d))[j]? = some y->i≠j/\ρ[j]? = some y:=λ{j y} w h=>by
  rw[List.getElem?_set]at h;by_cases c:i=j
  .rw[Ac c,Ac (by lia)]at h
   exact absurd (Ab4 h).symm w
  .rw[Ab c]at h;exact⟨c,h⟩
 have nd:∀{y:Sl},y.os=true->y≠.val d:=λ{y} h e=>by rw[e]at h;cases h
 have g:Same (hid (F1 ρ o S) H) (hid (F1 (ρ.set i (.val d)) o S) H):=K3 (L2.Same.rf _) λb z _=>bD0 rfl z
 have s:∀b∈o i,hid (F1 (ρ.set i (.val d)) o S) H b=H b:=λb X=>by
  obtain⟨xs,e⟩:=I.lists b (.inr ⟨i,x,hi,r,X⟩);rw[e];refine hid_some.mpr ⟨λz=>?_,e⟩
  rcases z with z | ⟨j,y,h,w,U⟩
  .obtain⟨ys,e'⟩:=I.sl b z;rw[I.new i x hi r b X]at e';cases e'
  .obtain⟨c,h⟩:=at_ (nd w) h;exact c (I.inj i j x y hi h r w b X U)
 have lists:∀b,F1 (ρ.set i (.val d)) o S b->∃u:HM,H b=some u.ho:=λb z=>I.lists b (bD0 rfl z)
 refine⟨by simp[I.len],I.base,I.sl,λj y h w=>I.new j y (at_ (nd w) h).2 w,λj k y z h P w Q=>I.inj j k y z (at_ (nd w) h).2 (at_ (nd Q) P).2 w Q,λj F h=>?_,λj Y h=>?_,λj Y h=>?_,λj t h=>?_⟩
 .obtain⟨c,h⟩:=at_ (nd rfl) h;obtain⟨p,M,a,xs,b,N⟩:=I.own j F h;exact⟨p,M,a,xs,b,N.mono g⟩
 .by_cases c:i=j
  .subst c;rw[Ai J]at h;cases h;rcases R with⟨rfl,rfl⟩ | ⟨u,rfl,rfl⟩
   .obtain⟨p,M,a,xs,b,N⟩:=I.own i ds hi;exact⟨_,a,.lst (SqL.of (by rw[s p (by rw[M];simp)];exact b)) (N.mono g)⟩
   .obtain⟨_,v,a,b⟩:=I.tr i u hi;exact⟨v,a,cR1 X1 (λ_ _ q=>aH0 lists q) g u s b⟩
  .rw[Ad0 c]at h;obtain⟨v,a,b⟩:=I.val j Y h;exact⟨v,a,b.mono g⟩
 .obtain⟨c,h⟩:=at_ (by simp) h
  exact I.bor j Y h
 .obtain⟨c,h⟩:=at_ (nd rfl) h;obtain⟨n,v,a,b⟩:=I.tr j t h;exact⟨n,v,a,b.mono g (L2.Same.rf _)⟩
theorem bG8 {i:Nat}{t:TS}{R:AE}(hi:ρ[i]? = some (.own ds))(h:W K t (ρ.set i (.val (.list ds))) R):W K t ρ R:=λS B D σ H o I s=>h S B D σ H o (I.frz hi (.inl ⟨rfl,rfl⟩)) s
theorem dJ6 {i:Nat}{t:TS}{R:AE}(hi:ρ[i]? = some (.tr u))(h:W K t (ρ.set i (.val u.data)) R):W K t ρ R:=λS B D σ H o I s=>h S B D σ H o (I.frz (ds:=[]) hi (.inr ⟨u,rfl,rfl⟩)) s
theorem aO6 {α:Type}{f:α->OT}{g:α->PyData}(h:∀a,(f a).data=g a):∀l:List α,OT.datas (l.map f)=l.map g
 | []=>rfl
 | a::l=>by simp[OT.datas,h a,aO6 h l]
end
end LV
namespace LV
open PySem PySem.Spec PyProof.Rows L2
def dQ9 (K:Frag):R2:=λx y H Q=>∃l b xs zs,x=.ref l/\y=.ref b/\SqL K H l xs/\SqL K H b zs/\xs.length+zs.length<=sizeLine/\∀p,H p=none->Q (.ref p) (upd H p (.lst (xs++zs)))
theorem O5 (K:Frag)(h:X.K=K:=by rfl):OpR X (binaryOp .Add) (dQ9 K):=by
 subst h;intro bA s σ H x y v u Q I rx ry h;obtain⟨l,b,xs,zs,rfl,rfl,hH,hB,hz,q⟩:=h;cases rx;cases ry;obtain⟨its,r,⟨⟨cls,dd,data,sl⟩,n,ho,B,hdd,P⟩,_⟩:=I.list hH;obtain⟨w,r2,⟨⟨R,M,J,N⟩,n2,U,j,hdd2,Y⟩,_⟩:=I.list hB;simp only at B P j Y;subst B P j Y;have e:its.toArray++w.toArray=(its++w).toArray:=by simp
 have hl:=r.length
 have hl2:=r2.length
 refine concat_meets ⟨_,ho,rfl⟩ ⟨_,U,rfl⟩ noFill_list_add seq_list_add PySem.F.slot_list_add PySem.F.entry_list_add (PySem.F.args_list_add_2 _ _) (list_addW l b its.toArray w.toArray n n2 dd M sl N (by simp;lia)) ⟨ho,U,?_⟩
 rw[e];exact⟨.ref _,_,I.lnew (t':=s.toks) (r.append r2) (by rw[Ab7];lia),rfl,q _ I.fresh⟩
end LV
namespace LV
open PySem L2
section
theorem aM3:∀{l l':AF},N8 (l++l')=(N8 l&&N8 l')
 | [],l'=>by simp[N8]
 | a::l,l'=>by simp[N8,aM3 (l:=l),Bool.and_assoc]
theorem cI2:∀{l:AF},N8 l=true->∀d∈l,imm d=true
 | [],_,d,hd=>by simp at hd
 | a::l,h,d,hd=>by
  simp[N8]at h
  rcases Aa1.mp hd with rfl | z
  .exact h.1
  .exact cI2 h.2 d z
theorem aN7 (Y:E K false ta ρ (.list ds))(X:E K false tb ρ (.list es))(hi:N8 ds=true)(r:N8 es=true)(U:ds.length+es.length<=sizeLine:=by first | decide | (unfold sizeLine;simp;done)):EF K (tOp (dQ9 K) ta tb) ρ (ds++es):=λS B σ H o I Q q=>
 Y S B σ H o I _ λx s w J=>X S B σ s o (I.grow w) _ λy N e M=>by
  cases J with
  | @lst a xs _ sa ra=>
  cases M with
  | @lst b ys _ sb rb=>
  have j:=ra.mono e
  refine⟨a,b,xs,ys,rfl,rfl,Y9 e sa,sb,by rw[ra.length,rb.length];exact U,λp hp=>q p _ _ (L2.Same.tr w (L2.Same.tr e (G0 hp))) (p4 (L2.Same.tr w e) hp) C4 (aL3 ((I.grow w).grow e).lists hp (j.append rb) ?_)⟩
  rw[aM3,hi,r];rfl
def O (K:Frag)(t:TO)(ρ:List Sl)(i:Option Int):Prop:=
 ∀(S:Addr->Prop) (B:Hp) (σ:St) (H:Hp) (o:Nat->AL),Env K S B H σ ρ o->∀Q,(∀H',Same H H'->Q i H')->t σ H Q
def aD0 (xs:AF)(lo hi:Option Int):AF:=List.take (HT.sIx xs.length xs.length hi-HT.sIx xs.length 0 lo) (List.drop (HT.sIx xs.length 0 lo) xs)
theorem Reps.cut (r:Reps K H xs ds)(lo hi:Option Int):Reps K H (bY1 xs lo hi) (aD0 ds lo hi):=by
 unfold bY1 aD0;rw[r.length];exact(r.drop _).take _
theorem V6 (lo hi:Option Int)(h:N8 ds=true):N8 (aD0 ds lo hi)=true:=by
 refine cE4 λd e=>?_
 have:d∈ds:=Cr (Be e)
 exact cI2 h d this
theorem j7:O K cV0 ρ none:=λS B σ H o I Q q=>q H (L2.Same.rf _)
theorem U1 (h:E K false t ρ (.int i)):O K (eE7 t) ρ (some i):=λS B σ H o I Q q=>h S B σ H o I _ λv e s r=>by
 cases r
 exact⟨i,rfl,q e s⟩
theorem aO0 {n:Nat}(h:n<=ds.length):aD0 ds (some (n:Int)) none=ds.drop n:=by
 unfold aD0 HT.sIx;simp only[];rw[Ab (by lia),Ac8,Nat.min_eq_left h]
 exact Dh (by simp)
theorem aL2 {n:Nat}(h:n<=ds.length):aD0 ds none (some (n:Int))=ds.take n:=by
 unfold aD0 HT.sIx;simp only[];rw[Ab (by lia),Ac8,Nat.min_eq_left h]
 simp
theorem cX0 (X:E K false ta ρ (.list ds))(J:O K tl ρ lo)(U:O K th ρ hi)(r:N8 ds=true):EF K (tSl (eG9 K) ta tl th) ρ (aD0 ds lo hi):=λS B σ H o I Q q=>
 X S B σ H o I _ λx s w M=>J S B σ s o (I.grow w) _ λY j=>U S B σ Y o ((I.grow w).grow j) _ λR N=>by
  cases M with
  | @lst a xs _ sa ra=>
  have e:=L2.Same.tr j N
  exact⟨a,xs,rfl,Y9 e sa,λp hp=>q p _ _ (L2.Same.tr w (L2.Same.tr e (G0 hp))) (p4 (L2.Same.tr w e) hp) C4 (aL3 (I.grow (L2.Same.tr w e)).lists hp ((ra.mono e).cut lo hi) (V6 lo hi r))⟩
end
end LV
namespace L2
open PySem
def eO2:Expr->Bool
 | .Starred ..=>false
 | _=>true
theorem bL2 (h:eO2 e=true):starEach (e::es) env=(false,eval e env)::starEach es env:=by
 cases e <;> first | rfl | cases h
theorem A0 (w:PE X e te)(r:PA X es t)(h:eO2 e=true:=by rfl):PA X (e::es) (E7 te t):=dU6 w r (bL2 h)
theorem bP0 (K:Frag)(U:X.calm=true)(w:Gl X "list")(j:X.mg "list" = none)(r:Gl X "reversed")(s:X.mg "reversed" = none)(J:PE X e te)(Y:X.K=K:=by rfl)(h:eO2 e=true:=by rfl) :
  PE X (.Call (.Name "list" p1) [.Call (.Name "reversed" p2) [e] [] pos2] [] pos1) (LV.cV3 K te):=
 LV.cL4 K U w j r s J Y (bL2 h) (bL2 rfl)
end L2
namespace TT
def lin:AC->Nat->Nat->Prop
 | c::d::l,a,b=>(a=c/\b=d)\/lin (d::l) a b
 | _,_,_=>False
theorem cS8 (a b:Nat):lin [] a b↔False:=Iff.rfl
theorem p7 (c a b:Nat):lin [c] a b↔False:=Iff.rfl
theorem D1 (c d:Nat)(l:AC)(a b:Nat):lin (c::d::l) a b↔(a=c/\b=d)\/lin (d::l) a b:=Iff.rfl
theorem K6 (c:Nat)(w:AC)(a b:Nat):∀u:AC,lin (u++c::w) a b↔lin (u++[c]) a b\/lin (c::w) a b
 | []=>by simp[p7]
 | [d]=>by simp[D1,p7]
 | d::e::u=>by
  have r:=K6 c w a b (e::u)
  simp only[Ab6,D1]at r ⊢;rw[r];grind
theorem T7:∀{u:AC},lin (u++[c]) a b->a∈u
 | [],h=>h.elim
 | [d],h=>by
  rcases (D1 ..).mp h with⟨rfl,rfl⟩ | h
  .simp
  .exact h.elim
 | d::e::u,h=>by
  rcases (D1 ..).mp h with⟨rfl,rfl⟩ | h
  .simp
  .exact Ad4 _ (T7 (u:=e::u) h)
theorem aP2 (h:lin (c::u) a b):b∈u:=by
 induction u generalizing c with
 | nil=>exact h.elim
 | cons d u e=>
  rcases (D1 ..).mp h with⟨rfl,rfl⟩ | h
  .simp
  .exact Ad4 _ (e h)
theorem r6 (h:lin l a b):a∈l/\b∈l:=by
 induction l with
 | nil=>exact h.elim
 | cons c l e=>
  refine⟨?_,Ad4 _ (aP2 h)⟩;cases l with
  | nil=>exact h.elim
  | cons d l=>
   rcases (D1 ..).mp h with⟨rfl,rfl⟩ | h
   .simp
   .exact Ad4 _ (e h).1
def adj (l:AC)(a b:Nat):Prop:=lin (l++l.take 1) a b
structure Edit (row row':Nat->AC)(v x y:Nat)(L C R:AC):Prop where
 nd:∀q,(row q).Nodup
 self:∀q,q∉row q
 tri:∀q a b,adj (row q) a b->adj (row a) b q
 v2:v≠2
 fresh:∀q,v∉row q
 two:row 2=L++x::(C++y::R)
 newv:row' v=x::(C++[y,2])
 oldv:row v=[]
 new2:row' 2=L++x::v::y::R
 rx:∃u z w,row x=u++z::2::w/\row' x=u++z::v::2::w
 ry:∃u w,row y=u++2::w/\row' y=u++2::v::w
 rc:∀c∈C,∃u z w,row c=u++z::2::w/\row' c=u++z::v::w
 rest:∀q,q≠2->q≠v->q≠x->q≠y->q∉C->row' q=row q
section
def EE (x y:Nat)(C:AC)(a b:Nat):Prop:=lin (x::(C++[y])) a b
def W (x y:Nat)(C:AC)(q a b:Nat):Prop:=(q=2/\EE x y C a b)\/(b=2/\EE x y C q a)\/(a=2/\EE x y C b q)
def W' (v x y:Nat)(C:AC)(q a b:Nat):Prop:=(q=v/\EE x y C a b)\/(b=v/\EE x y C q a)\/(a=v/\EE x y C b q) \/
 (q=2/\a=x/\b=v)\/(q=x/\a=v/\b=2)\/(q=v/\a=2/\b=x)\/(q=2/\a=v/\b=y)\/(q=v/\a=y/\b=2)\/(q=y/\a=2/\b=v)
theorem bM0 (h:EE x y C a b):(a=x\/a∈C)/\(b∈C\/b=y):=by
 have h1:=T7 (u:=x::C) h
 have e:=aP2 h
 exact⟨by simpa using h1,by simpa using e⟩
theorem Edit.facts (E:Edit row row' v x y L C R):(x≠y/\x≠2/\y≠2/\x≠v/\y≠v)/\(∀c∈C,c≠x/\c≠y/\c≠2/\c≠v)/\(L++x::(C++y::R)).Nodup:=by
 have h:=E.nd 2
 have e:=E.self 2
 have w:=E.fresh 2
 rw[E.two]at h e w;refine⟨?_,?_,h⟩
 .grind
 .intro c r;grind
theorem eX2 (E:Edit row row' v x y L C R)(a b:Nat):adj (row' 2) a b↔(adj (row 2) a b/\¬W x y C 2 a b)\/W' v x y C 2 a b:=by
 obtain⟨⟨f1,f2,f3,f4,f5⟩,fc,nd⟩:=E.facts;unfold adj;rw[E.two,E.new2];have F:(L++x::(C++y::R)).take 1=(L++[x]).take 1:=by cases L <;> simp
 have B:(L++x::v::y::R).take 1=(L++[x]).take 1:=by cases L <;> simp
 rw[F,B];generalize s:(L++[x]).take 1=t;have N:∀c∈t,c∈L++[x]:=λc j=>by rw[<- s]at j;exact Be j
 have X:L++x::(C++y::R)++t=L++x::(C++y::(R++t)):=by simp
 have U:L++x::v::y::R++t=L++x::v::y::(R++t):=by simp
 have J:x::(C++y::(R++t))=(x::C)++y::(R++t):=by simp
 rw[X,U,K6 x (v::y::(R++t)) a b L,K6 x (C++y::(R++t)) a b L,J,K6 y _ a b (x::C),D1 x v,D1 v y];have M:lin ((x::C)++[y]) a b↔EE x y C a b:=Iff.rfl;rw[M];have w := @bM0 x y C;have g1:lin (L++[x]) a b->¬EE x y C a b:=λh q=>by
  have:=(r6 h).2
  have:=(w q).2
  grind
 have g2:lin (y::(R++t)) a b->¬EE x y C a b:=λh q=>by
  have h2:=(w q).1
  have h3:a∈y::R:=by
   match t,s with
   | [],_=>
    rcases Ac5 R with e | ⟨Y,z,e⟩
    .subst e;exact h.elim
    .subst e
     have:=T7 (u:=y::Y) (by simpa using h)
     simp at this ⊢;try grind
   | [z],_=>exact T7 (u:=y::R) h
   | z::z'::t',e=>
    have:=congrArg List.length e
    simp at this
  grind
 have P:W x y C 2 a b↔EE x y C a b:=by
  unfold W;constructor
  .rintro (⟨_,h⟩ | ⟨_,h⟩ | ⟨_,h⟩)
   .exact h
   .have:=(w h).1;grind
   .have:=(w h).2;grind
  .exact λh=>.inl ⟨rfl,h⟩
 have r:W' v x y C 2 a b↔(a=x/\b=v)\/(a=v/\b=y):=by
  unfold W';have Q:=E.v2;constructor
  .rintro (⟨h,_⟩ | ⟨_,h⟩ | ⟨_,h⟩ | h | h | h | h | h | h)
   .exact absurd h.symm Q
   .have:=(w h).1;grind
   .have:=(w h).2;grind
   all_goals grind
  .grind
 rw[P,r];grind
theorem tk1 (h:l≠[]):∃c,l.take 1=[c]/\c∈l:=by
 cases l with
 | nil=>exact absurd rfl h
 | cons c l=>exact⟨c,by simp,by simp⟩
theorem cD6 (E:Edit row row' v x y L C R)(a b:Nat):∃t,(∀c∈t,c∈L++[x])/\t.length=1/\(adj (row 2) a b↔lin (L++[x]) a b\/EE x y C a b\/lin (y::(R++t)) a b):=by
 refine⟨(L++[x]).take 1,λc r=>Be r,by simp,?_⟩
 unfold adj;rw[E.two];have j:(L++x::(C++y::R)).take 1=(L++[x]).take 1:=by cases L <;> simp
 rw[j];generalize (L++[x]).take 1=t;have e:L++x::(C++y::R)++t=L++x::(C++y::(R++t)):=by simp
 have w:x::(C++y::(R++t))=(x::C)++y::(R++t):=by simp
 rw[e,K6 x (C++y::(R++t)) a b L,w,K6 y _ a b (x::C)];exact Iff.rfl
theorem bJ9 (E:Edit row row' v x y L C R)(h:EE x y C a b):adj (row 2) a b:=by
 obtain⟨t,_,_,e⟩:=cD6 E a b;exact e.mpr (.inr (.inl h))
theorem cX8 (E:Edit row row' v x y L C R)(h:adj (row 2) a b)(r:a=x\/a∈C):EE x y C a b:=by
 obtain⟨_,_,nd⟩:=E.facts;obtain⟨t,j,w,e⟩:=cD6 E a b;rcases e.mp h with h | h | h
 .have:=T7 h;grind
 .exact h
 .obtain⟨z,rfl⟩:∃z,t=[z]:=List.length_eq_one_iff.mp w
  have:=T7 (u:=y::R) h
  grind
theorem cI4 (E:Edit row row' v x y L C R)(h:adj (row 2) a b)(w:b∈C\/b=y):EE x y C a b:=by
 obtain⟨_,_,nd⟩:=E.facts;obtain⟨t,j,r,e⟩:=cD6 E a b;rcases e.mp h with h | h | h
 .have:=(r6 h).2;grind
 .exact h
 .have:=aP2 h
  grind
theorem eT3 (E:Edit row row' v x y L C R):adj (row 2) a b↔adj (row a) b 2:=⟨E.tri _ _ _,λh=>E.tri _ _ _ (E.tri _ _ _ h)⟩
theorem dU3 (E:Edit row row' v x y L C R):adj (row 2) a b↔adj (row b) 2 a:=⟨λh=>E.tri _ _ _ (E.tri _ _ _ h),λh=>E.tri _ _ _ h⟩
theorem eW5 (E:Edit row row' v x y L C R)(a b:Nat):adj (row' v) a b↔(adj (row v) a b/\¬W x y C v a b)\/W' v x y C v a b:=by
 obtain⟨⟨f1,f2,f3,s,Y⟩,fc,nd⟩:=E.facts;have X:=E.v2;unfold adj;rw[E.newv,E.oldv];have e:x::(C++[y,2])++(x::(C++[y,2])).take 1=(x::C)++y::[2,x]:=by simp
 rw[e,K6 y [2,x] a b (x::C),D1,D1];have r:lin ((x::C)++[y]) a b↔EE x y C a b:=Iff.rfl;rw[r];have w := @bM0 x y C;have h1:∀c,¬EE x y C v c:=λc h=>by have:=(w h).1;grind
 have j:∀c,¬EE x y C c v:=λc h=>by have:=(w h).2;grind
 unfold W'
 simp[cS8,p7,h1,j]
 grind
theorem eY2 (E:Edit row row' v x y L C R)(a b:Nat):adj (row' x) a b↔(adj (row x) a b/\¬W x y C x a b)\/W' v x y C x a b:=by
 obtain⟨⟨f1,f2,f3,U,f5⟩,fc,nd⟩:=E.facts;have hv:=E.v2;obtain⟨u,z,w,o,n⟩:=E.rx;have j:=E.nd x;have r:∀c,EE x y C x c↔adj (row x) c 2:=λc=>⟨λh=>E.tri _ _ _ (bJ9 E h),λh=>cX8 E ((eT3 E).mpr h) (.inl rfl)⟩
 have M := @bM0 x y C
 have s:∀c,¬EE x y C c x:=λc h=>by have:=(M h).2;grind
 have w1:W x y C x a b↔(b=2/\adj (row x) a 2):=by unfold W;simp[f2,s,r]
 have w2:W' v x y C x a b↔(b=v/\adj (row x) a 2)\/(a=v/\b=2):=by unfold W';simp[f2,U,f1,s,r]
 rw[w1,w2];unfold adj;rw[o]at j;rw[o,n];have B:(u++z::2::w).take 1=(u++[z]).take 1:=by cases u <;> simp
 have P:(u++z::v::2::w).take 1=(u++[z]).take 1:=by cases u <;> simp
 rw[B,P];have N:∀c∈(u++[z]).take 1,c∈u++[z]:=λc J=>Be J
 generalize (u++[z]).take 1=t at N;have Y:u++z::2::w++t=u++z::2::(w++t):=by simp
 have X:u++z::v::2::w++t=u++z::v::2::(w++t):=by simp
 rw[Y,X,K6 z (2::(w++t)) a b u,K6 z (v::2::(w++t)) a b u,K6 z (2::(w++t)) a 2 u,D1,D1,D1,D1];have Q:¬lin (u++[z]) a 2:=λh=>by have:=(r6 h).2;grind
 have F:¬lin (2::(w++t)) a 2:=λh=>by have:=aP2 h;grind
 have n3:lin (u++[z]) a b->b≠2:=λh e=>Q (e▸h)
 have n4:lin (2::(w++t)) a b->b≠2:=λh e=>F (e▸h)
 grind
theorem eW6 (E:Edit row row' v x y L C R)(a b:Nat):adj (row' y) a b↔(adj (row y) a b/\¬W x y C y a b)\/W' v x y C y a b:=by
 obtain⟨⟨f1,f2,f3,f4,Q⟩,fc,nd⟩:=E.facts;have hv:=E.v2;obtain⟨u,w,o,n⟩:=E.ry;have s:=E.nd y;have j:∀c,EE x y C c y↔adj (row y) 2 c:=λc=>⟨λh=>(dU3 E).mp (bJ9 E h),λh=>cI4 E ((dU3 E).mpr h) (.inr rfl)⟩
 have F := @bM0 x y C
 have X:∀c,¬EE x y C y c:=λc h=>by have:=(F h).1;grind
 have w1:W x y C y a b↔(a=2/\adj (row y) 2 b):=by unfold W;simp[f3,X,j]
 have w2:W' v x y C y a b↔(a=v/\adj (row y) 2 b)\/(a=2/\b=v):=by unfold W';simp[f3,Q,Ne.symm f1,X,j]
 rw[w1,w2];unfold adj;rw[o]at s;rw[o,n];have P:(u++2::w).take 1=(u++[2]).take 1:=by cases u <;> simp
 have t2:(u++2::v::w).take 1=(u++[2]).take 1:=by cases u <;> simp
 rw[P,t2];obtain⟨h,B,hh⟩:=tk1 (l:=u++[2]) (by simp)
 rw[B];have M:u++2::w++[h]=u++2::(w++[h]):=by simp
 have N:u++2::v::w++[h]=u++2::v::(w++[h]):=by simp
 rw[M,N];obtain⟨z,r,Y⟩:∃z r,w++[h]=z::r:=by cases w with
  | nil=>exact⟨h,[],rfl⟩
  | cons c w=>exact⟨c,w++[h],rfl⟩
 have J:∀b,¬lin (z::r) 2 b:=λb q=>by rw[<- Y]at q;have:=T7 q;grind
 have U:∀b,¬lin (u++[2]) 2 b:=λb q=>by have:=T7 q;grind
 rw[Y,K6 2 (z::r) a b u,K6 2 (v::z::r) a b u,K6 2 (z::r) 2 b u,D1,D1,D1,D1];have n3:lin (u++[2]) a b->a≠2:=λh e=>U b (e▸h)
 have n4:lin (z::r) a b->a≠2:=λh e=>J b (e▸h)
 have:=U b
 have:=J b
 grind
theorem eW9 (E:Edit row row' v x y L C R)(Y:c∈C)(a b:Nat):adj (row' c) a b↔(adj (row c) a b/\¬W x y C c a b)\/W' v x y C c a b:=by
 obtain⟨⟨f1,f2,f3,f4,f5⟩,fc,nd⟩:=E.facts;obtain⟨g1,g2,N,g4⟩:=fc c Y;have hv:=E.v2;obtain⟨u,z,w,o,n⟩:=E.rc c Y;have J:=E.nd c;have e:∀d,EE x y C c d↔adj (row c) d 2:=λd=>⟨λh=>E.tri _ _ _ (bJ9 E h),λh=>cX8 E ((eT3 E).mpr h) (.inr Y)⟩
 have j:∀d,EE x y C d c↔adj (row c) 2 d:=λd=>⟨λh=>(dU3 E).mp (bJ9 E h),λh=>cI4 E ((dU3 E).mpr h) (.inl Y)⟩
 have w1:W x y C c a b↔(b=2/\adj (row c) a 2)\/(a=2/\adj (row c) 2 b):=by unfold W;simp[N,e,j]
 have w2:W' v x y C c a b↔(b=v/\adj (row c) a 2)\/(a=v/\adj (row c) 2 b):=by unfold W';simp[g1,g2,N,g4,e,j]
 rw[w1,w2];have P:v∉row c:=E.fresh c;unfold adj;rw[o]at J P;rw[o,n];have t1:(u++z::2::w).take 1=(u++[z]).take 1:=by cases u <;> simp
 have t2:(u++z::v::w).take 1=(u++[z]).take 1:=by cases u <;> simp
 rw[t1,t2];obtain⟨h,ht,hh⟩:=tk1 (l:=u++[z]) (by simp)
 rw[ht];have Q:u++z::2::w++[h]=u++z::2::(w++[h]):=by simp
 have F:u++z::v::w++[h]=u++z::v::(w++[h]):=by simp
 rw[Q,F];obtain⟨k,s,B⟩:∃k s,w++[h]=k::s:=by cases w with
  | nil=>exact⟨h,[],rfl⟩
  | cons c w=>exact⟨c,w++[h],rfl⟩
 have M:2∉w++[h]:=by grind
 rw[B]at M ⊢;have X:∀p q,lin (u++[z]) p q->p≠2/\q≠2:=λp q h=>by have:=r6 h;grind
 have U:∀p q,lin (k::s) p q->p≠2/\q≠2:=λp q h=>by have:=r6 h;grind
 have fl:∀p q r,lin (u++z::r::k::s) p q↔lin (u++[z]) p q\/(p=z/\q=r)\/(p=r/\q=k)\/lin (k::s) p q:=λp q r=>by
  rw[K6 z (r::k::s) p q u,D1,D1]
 rw[fl,fl,fl,fl]
 have:=X a b
 have:=U a b
 have:=X a 2
 have:=U a 2
 have:=X 2 b
 have:=U 2 b
 grind
theorem eX4 (E:Edit row row' v x y L C R)(e:q≠2)(r:q≠v)(j:q≠x)(s:q≠y)(U:q∉C)(a b:Nat):adj (row' q) a b↔(adj (row q) a b/\¬W x y C q a b)\/W' v x y C q a b:=by
 rw[E.rest q e r j s U];have w := @bM0 x y C;have Y:∀c,¬EE x y C q c:=λc h=>by have:=(w h).1;grind
 have X:∀c,¬EE x y C c q:=λc h=>by have:=(w h).2;grind
 unfold W W'
 simp[e,r,j,s,Y,X]
theorem dI1 (E:Edit row row' v x y L C R)(q a b:Nat):adj (row' q) a b↔(adj (row q) a b/\¬W x y C q a b)\/W' v x y C q a b:=by
 by_cases e:q=2
 .subst e;exact eX2 E a b
 by_cases r:q=v
 .subst r;exact eW5 E a b
 by_cases j:q=x
 .subst j;exact eY2 E a b
 by_cases s:q=y
 .subst s;exact eW6 E a b
 by_cases w:q∈C
 .exact eW9 E w a b
 .exact eX4 E e r j s w a b
theorem Edit.tri' (E:Edit row row' v x y L C R)(q a b:Nat)(h:adj (row' q) a b):adj (row' a) b q:=by
 rw[dI1 E]at h ⊢;rcases h with⟨h,n⟩ | h
 .refine .inl ⟨E.tri _ _ _ h,?_⟩;unfold W at n ⊢;grind
 .right
  unfold W' at h ⊢;rcases h with h | h | h | h | h | h | h | h | h
  all_goals obtain⟨e,h⟩:=h
  all_goals simp[e,h]
theorem Edit.nd' (E:Edit row row' v x y L C R)(q:Nat):(row' q).Nodup:=by
 obtain⟨⟨f1,f2,f3,U,J⟩,fc,nd⟩:=E.facts;have M:=E.v2;by_cases r:q=2
 .subst r;rw[E.new2]
  have:=E.fresh 2
  rw[E.two]at this;grind
 by_cases s:q=v
 .subst s;rw[E.newv];grind
 by_cases Y:q=x
 .subst Y;obtain⟨u,z,w,o,n⟩:=E.rx;have h1:=E.nd q;have e:=E.fresh q;rw[o]at h1 e;rw[n];grind
 by_cases X:q=y
 .subst X;obtain⟨u,w,o,n⟩:=E.ry;have h1:=E.nd q;have e:=E.fresh q;rw[o]at h1 e;rw[n];grind
 by_cases j:q∈C
 .obtain⟨u,z,w,o,n⟩:=E.rc q j;have h1:=E.nd q;have e:=E.fresh q;rw[o]at h1 e;rw[n];grind
 .rw[E.rest q r s Y X j];exact E.nd q
theorem Edit.self' (E:Edit row row' v x y L C R)(q:Nat):q∉row' q:=by
 obtain⟨⟨f1,f2,f3,U,J⟩,fc,nd⟩:=E.facts;have M:=E.v2;have e:=E.self q;by_cases r:q=2
 .subst r;rw[E.two]at e;rw[E.new2];grind
 by_cases s:q=v
 .subst s;rw[E.newv];grind
 by_cases Y:q=x
 .subst Y;obtain⟨u,z,w,o,n⟩:=E.rx;rw[o]at e;rw[n];grind
 by_cases X:q=y
 .subst X;obtain⟨u,w,o,n⟩:=E.ry;rw[o]at e;rw[n];grind
 by_cases j:q∈C
 .obtain⟨u,z,w,o,n⟩:=E.rc q j;rw[o]at e;rw[n];grind
 .rw[E.rest q r s Y X j];exact e
end
structure S where
 k:Nat
 path:AC
 heap:AC
 i0:Nat->AC
 i1:Nat->AC
 i2:Nat->AC
 o0:Nat->Nat
 o1:Nat->Nat
 o2:Nat->Nat
def put {α:Type}(f:Nat->α)(a:Nat)(x:α):Nat->α:=λb=>if b=a then x else f b
theorem G6:put f a x a=x:=by simp[put]
theorem F5 (h:b≠a):put f a x b=f b:=by simp[put,h]
def S.row (s:S)(q:Nat):AC:=
 if q=0 then 1::(s.i0 0++[2]) else if q=1 then 2::((s.i1 1).reverse++[0]) else if q=2 then s.path.reverse++s.heap
 else if q<s.k+3 then s.o0 q::(s.i2 q++s.o1 q::(s.i0 q++s.o2 q::(s.i1 q).reverse)) else []
def S.first:S:={k:=0,path:=[0],heap:=[1],i0:=λ_=>[],i1:=λ_=>[],i2:=λ_=>[],o0:=λ_=>2,o1:=λ_=>2,o2:=λ_=>2}
def S.h1 (s:S)(a:Nat):AC:=(s.path.take a).reverse++s.heap
def S.step (s:S)(a b:Nat):S where
 k:=s.k+1
 path:=(s.k+3)::s.path.drop a
 heap:=(s.h1 a).drop b
 i0:=put s.i0 ((s.path.drop a).headD 0) (s.i0 ((s.path.drop a).headD 0)++[s.k+3])
 i1:=put s.i1 (((s.h1 a).drop b).headD 0) (s.i1 (((s.h1 a).drop b).headD 0)++[s.k+3])
 i2:=put s.i2 (s.k+3) ((s.h1 a).take b)
 o0:=put s.o0 (s.k+3) ((s.path.drop a).headD 0)
 o1:=put s.o1 (s.k+3) (((s.h1 a).drop b).headD 0)
 o2:=λq=>if q=s.k+3 then 2 else if q∈(s.h1 a).take b then s.k+3 else s.o2 q
structure bY6 (s:S):Prop where
 nd:∀q,(s.row q).Nodup
 self:∀q,q∉s.row q
 tri:∀q a b,adj (s.row q) a b->adj (s.row a) b q
 lt:∀q,∀p∈s.row q,p<s.k+3
 pe:∃p,s.path=p++[0]
 he:∃h,s.heap=h++[1]
 bd:∀q,(q∈s.path\/q∈s.heap)->q≠2/\(3<=q->s.o2 q=2)
 emp:∀q,s.k+3<=q->s.i0 q=[]/\s.i1 q=[]
theorem cE0 {s:S}{q:Nat}(h:s.k+3<=q):s.row q=[]:=by
 unfold S.row;rw[Ab (by lia),Ab (by lia),Ab (by lia),Ab (by lia)]
theorem W9 {s:S}{q:Nat}(h:3<=q)(h':q<s.k+3):s.row q=s.o0 q::(s.i2 q++s.o1 q::(s.i0 q++s.o2 q::(s.i1 q).reverse)):=by
 unfold S.row;rw[Ab (by lia),Ab (by lia),Ab (by lia),Ac h']
theorem aV9 {s:S}:s.row 2=s.path.reverse++s.heap:=by simp[S.row]
theorem aU7 {s:S}:s.row 0=1::(s.i0 0++[2]):=by simp[S.row]
theorem bM6 {s:S}:s.row 1=2::((s.i1 1).reverse++[0]):=by simp[S.row]
theorem cO6:bY6 S.first where
 nd:=λq=>by
  unfold S.row S.first;dsimp only
  repeat' split
  all_goals simp
  lia
 self:=λq=>by
  unfold S.row S.first;dsimp only
  repeat' split
  all_goals simp
  all_goals lia
 tri:=λq a b h=>by
  have e:∀q a b,adj (S.first.row q) a b↔(q=0/\((a=1/\b=2)\/(a=2/\b=1)))\/(q=1/\((a=2/\b=0)\/(a=0/\b=2)))\/(q=2/\((a=0/\b=1)\/(a=1/\b=0))):=λq a b=>by
   unfold S.row S.first adj;dsimp only
   repeat' split
   all_goals (simp_all[lin])
   all_goals lia
  rw[e]at h ⊢;rcases h with⟨rfl,⟨rfl,rfl⟩ | ⟨rfl,rfl⟩⟩ | ⟨rfl,⟨rfl,rfl⟩ | ⟨rfl,rfl⟩⟩ | ⟨rfl,⟨rfl,rfl⟩ | ⟨rfl,rfl⟩⟩ <;> decide
 lt:=λq p=>by
  unfold S.row S.first;dsimp only
  repeat' split
  all_goals (simp <;> lia)
 pe:=⟨[],rfl⟩
 he:=⟨[],rfl⟩
 bd:=λq h=>by
  simp only[S.first,Ad8]at h
  lia
 emp:=λq _=>⟨rfl,rfl⟩
theorem cX6 (I:bY6 s)(ha:a<s.path.length)(hb:b<a+s.heap.length) :
  ∃x px y hy,s.path.drop a=x::px/\(s.h1 a).drop b=y::hy/\Edit s.row (s.step a b).row (s.k+3) x y px.reverse ((s.h1 a).take b) hy/\bY6 (s.step a b):=by
 obtain⟨p0,N⟩:=I.pe;obtain⟨h0,P⟩:=I.he;obtain⟨x,px,r⟩:∃x px,s.path.drop a=x::px:=by
  cases e:s.path.drop a with
  | nil=>have:=List.drop_eq_nil_iff.mp e;lia
  | cons x px=>exact⟨x,px,rfl⟩
 have hl:(s.h1 a).length=a+s.heap.length:=by
  unfold S.h1;simp;lia
 obtain⟨y,hy,j⟩:∃y hy,(s.h1 a).drop b=y::hy:=by
  cases e:(s.h1 a).drop b with
  | nil=>have:=List.drop_eq_nil_iff.mp e;lia
  | cons y hy=>exact⟨y,hy,rfl⟩
 have X:s.row 2=px.reverse++x::((s.h1 a).take b++y::hy):=by
  rw[aV9,<- j,Ad3]
  have:s.path=s.path.take a++x::px:=by rw[<- r,Ad3]
  conv=>lhs;rw[this]
  unfold S.h1
  simp
 have nd2:=I.nd 2
 have R:=I.self 2
 have Y:=I.lt 2
 rw[X]at nd2 R Y;have pl:∃p1,x::px=p1++[0]:=by
  rw[<- r,N];rw[N]at ha;simp at ha;rw[List.drop_append_of_le_length (by lia)]
  exact⟨_,rfl⟩
 have hyl:∃h1,y::hy=h1++[1]:=by
  rw[<- j];unfold S.h1;rw[P,<- Ad7]
  have:(p0.length:Nat)+1=s.path.length:=by rw[N];simp
  have l1:((s.path.take a).reverse++h0).length=a+h0.length:=by simp;lia
  have l2:s.heap.length=h0.length+1:=by rw[P];simp
  rw[List.drop_append_of_le_length (by lia)]
  exact⟨_,rfl⟩
 have one_mem:1∈y::hy:=by obtain⟨h1,e⟩:=hyl;rw[e];simp
 have F:0∈x::px:=by obtain⟨h1,e⟩:=pl;rw[e];simp
 generalize Q:(s.h1 a).take b=C at *;have B:∀c∈C,c≠0/\c≠1/\c≠2/\c<s.k+3:=by
  intro c J;refine⟨?_,?_,?_,Y c (by simp[J])⟩
  .rintro rfl;grind
  .rintro rfl;grind
  .rintro rfl;grind
 have hx:x≠1/\x≠2/\x<s.k+3:=⟨by rintro rfl;grind,by rintro rfl;grind,Y x (by simp)⟩
 have hyy:y≠0/\y≠2/\y<s.k+3:=⟨by rintro rfl;grind,by rintro rfl;grind,Y y (by simp)⟩
 have M:∀q,q∈s.row 2->3<=q->s.o2 q=2:=λq U h3=>by
  rw[aV9]at U;simp at U;exact(I.bd q U).2 h3
 have o2x:3<=x->s.o2 x=2:=M x (by rw[X];simp)
 have o2y:3<=y->s.o2 y=2:=M y (by rw[X];simp)
 have o2c:∀c∈C,s.o2 c=2:=λc J=>by
  have:=B c J
  exact M c (by rw[X];simp[J]) (by lia)
 have xy:x≠y:=by rintro rfl;grind
 have xC:x∉C:=by grind
 have yC:y∉C:=by grind
 have E:Edit s.row (s.step a b).row (s.k+3) x y px.reverse C hy:=by
  refine⟨I.nd,I.self,I.tri,by lia,λq U=>?_,X,?_,cE0 (Aa7 _),?_,?_,?_,?_,?_⟩
  .have:=I.lt q _ U;lia
  .rw[W9 (by lia) (by simp[S.step])]
   have e1:=I.emp (s.k+3) (Aa7 _)
   simp only[S.step,r,j,Q,Bp,G6,if_true];rw[F5 (by lia),F5 (by lia),e1.1,e1.2]
   simp
  .rw[aV9];simp only[S.step,r,j]
   simp
  .by_cases x0:x=0
   .subst x0;rcases Ac5 (1::s.i0 0) with e | ⟨u,z,e⟩
    .cases e
    .refine⟨u,z,[],?_,?_⟩
     .rw[aU7,<- Ab6,e];simp
     .rw[aU7];simp only[S.step,r,Bp,G6];rw[Ad7,<- Ab6,e];simp
   .have x3:3<=x:=by lia
    rcases Ac5 (s.o0 x::(s.i2 x++s.o1 x::s.i0 x)) with e | ⟨u,z,e⟩
    .cases e
    .refine⟨u,z,(s.i1 x).reverse,?_,?_⟩
     .rw[W9 x3 hx.2.2,o2x x3]
      have:s.o0 x::(s.i2 x++s.o1 x::(s.i0 x++2::(s.i1 x).reverse))=(s.o0 x::(s.i2 x++s.o1 x::s.i0 x))++2::(s.i1 x).reverse:=by simp
      rw[this,e];simp
     .rw[W9 x3 (by simp[S.step];lia)]
      simp only[S.step,r,j,Q,Bp,G6];rw[F5 (by lia),F5 (by lia),F5 (by lia),F5 xy,Ab (by lia),Ab xC,o2x x3]
      have:s.o0 x::(s.i2 x++s.o1 x::(s.i0 x++[s.k+3]++2::(s.i1 x).reverse))=(s.o0 x::(s.i2 x++s.o1 x::s.i0 x))++(s.k+3)::2::(s.i1 x).reverse:=by simp
      rw[this,e];simp
  .by_cases y1:y=1
   .subst y1;refine⟨[],(s.i1 1).reverse++[0],?_,?_⟩
    .rw[bM6];simp
    .rw[bM6];simp only[S.step,j,Bp,G6]
     simp
   .have y3:3<=y:=by lia
    refine⟨s.o0 y::(s.i2 y++s.o1 y::s.i0 y),(s.i1 y).reverse,?_,?_⟩
    .rw[W9 y3 hyy.2.2,o2y y3];simp
    .rw[W9 y3 (by simp[S.step];lia)]
     simp only[S.step,r,j,Q,Bp,G6];rw[F5 (by lia),F5 (by lia),F5 (by lia),F5 (Ne.symm xy),Ab (by lia),Ab yC,o2y y3]
     simp
  .intro c J;obtain⟨c0,c1,c2,ck⟩:=B c J;have c3:3<=c:=by lia
   have cx:c≠x:=λe=>xC (e▸J)
   have cy:c≠y:=λe=>yC (e▸J)
   rcases Ac5 (s.o0 c::(s.i2 c++s.o1 c::s.i0 c)) with e | ⟨u,z,e⟩
   .cases e
   .refine⟨u,z,(s.i1 c).reverse,?_,?_⟩
    .rw[W9 c3 ck,o2c c J]
     have:s.o0 c::(s.i2 c++s.o1 c::(s.i0 c++2::(s.i1 c).reverse))=(s.o0 c::(s.i2 c++s.o1 c::s.i0 c))++2::(s.i1 c).reverse:=by simp
     rw[this,e];simp
    .rw[W9 c3 (by simp[S.step];lia)]
     simp only[S.step,r,j,Q,Bp];rw[F5 (by lia),F5 (by lia),F5 (by lia),F5 cx,F5 cy,Ab (by lia),Ac J]
     have:s.o0 c::(s.i2 c++s.o1 c::(s.i0 c++(s.k+3)::(s.i1 c).reverse))=(s.o0 c::(s.i2 c++s.o1 c::s.i0 c))++(s.k+3)::(s.i1 c).reverse:=by simp
     rw[this,e];simp
  .intro q q2 qv qx qy qC;by_cases q0:q=0
   .subst q0;rw[aU7,aU7];simp only[S.step,r,Bp];rw[F5 qx]
   by_cases q1:q=1
   .subst q1;rw[bM6,bM6];simp only[S.step,j,Bp];rw[F5 qy]
   by_cases qk:q<s.k+3
   .rw[W9 (by lia) qk,W9 (by lia) (by simp[S.step];lia)]
    simp only[S.step,r,j,Q,Bp];rw[F5 qv,F5 qv,F5 qv,F5 qx,F5 qy,Ab qv,Ab qC]
   .rw[cE0 (s:=s.step a b) (by show s.k+1+3<=q;lia),cE0 (s:=s) (by lia)]
 refine⟨x,px,y,hy,r,j,E,⟨E.nd',E.self',E.tri',λq p hp=>?_,?_,?_,λq U=>?_,λq U=>?_⟩⟩
 .show p<s.k+1+3
  by_cases h2:q=2
  .subst h2;rw[E.new2]at hp
   have:=Y p
   grind
  by_cases hv:q=s.k+3
  .subst hv;rw[E.newv]at hp
   have:=Y p
   grind
  by_cases qx:q=x
  .subst qx;obtain⟨u,z,w,o,n⟩:=E.rx
   have:=I.lt q p
   rw[o]at this;rw[n]at hp;grind
  by_cases qy:q=y
  .subst qy;obtain⟨u,w,o,n⟩:=E.ry
   have:=I.lt q p
   rw[o]at this;rw[n]at hp;grind
  by_cases qC:q∈C
  .obtain⟨u,z,w,o,n⟩:=E.rc q qC
   have:=I.lt q p
   rw[o]at this;rw[n]at hp;grind
  .rw[E.rest q h2 hv qx qy qC]at hp
   have:=I.lt q p hp
   lia
 .obtain⟨p1,e⟩:=pl;exact⟨(s.k+3)::p1,by simp only[S.step,r,e];simp⟩
 .obtain⟨h1,e⟩:=hyl;exact⟨h1,by simp only[S.step,j,e]⟩
 .have hq':q=s.k+3\/q∈x::px\/q∈y::hy:=by
   simp only[S.step,r,j]at U;simp at U ⊢;grind
  rcases hq' with rfl | hq'
  .exact⟨by lia,λ_=>by simp[S.step]⟩
  .have hm:q∈s.row 2:=by rw[X];grind
   have hnC:q∉C:=by grind
   refine⟨by rintro rfl;exact I.self 2 hm,λh3=>?_⟩
   simp only[S.step,Q];rw[Ab (by have:=I.lt 2 q hm;lia),Ab hnC]
   exact M q hm h3
 .have U:s.k+1+3<=q:=U
  have:=I.emp q (by lia)
  simp only[S.step,r,j,Bp];rw[F5 (by lia),F5 (by lia)]
  exact this
theorem cI6 (l:AC)(x y:Nat):lin (l.map f) x y↔∃a b,x=f a/\y=f b/\lin l a b:=by
 induction l with
 | nil=>simp[cS8]
 | cons c l e=>
  cases l with
  | nil=>simp[p7]
  | cons d l=>
   simp only[Ac7,D1];simp only[Ac7]at e;rw[e];constructor
   .rintro (⟨rfl,rfl⟩ | ⟨a,b,w,r,h⟩)
    .exact⟨c,d,rfl,rfl,.inl ⟨rfl,rfl⟩⟩
    .exact⟨a,b,w,r,.inr h⟩
   .rintro⟨a,b,rfl,rfl,⟨rfl,rfl⟩ | h⟩
    .exact .inl ⟨rfl,rfl⟩
    .exact .inr ⟨a,b,rfl,rfl,h⟩
theorem dW8 (l:AC)(x y:Nat):adj (l.map f) x y↔∃a b,x=f a/\y=f b/\adj l a b:=by
 unfold adj;rw[<- cI6]
 simp
theorem p8 (u w:AC)(x y:Nat):adj (w++u) x y↔adj (u++w) x y:=by
 cases u with
 | nil=>simp
 | cons a u=>
  cases w with
  | nil=>simp
  | cons b w=>
   unfold adj;have e:b::w++a::u++(b::w++a::u).take 1=(b::w)++a::(u++[b]):=by simp
   have r:a::u++b::w++(a::u++b::w).take 1=(a::u)++b::(w++[a]):=by simp
   rw[e,r,K6 a (u++[b]) x y (b::w),K6 b (w++[a]) x y (a::u)];simp only[Ab6];exact Or.comm
theorem C6 (h:adj l a b):a∈l/\b∈l:=by
 have:=r6 h
 simp only[Aa0]at this;exact⟨this.1.elim id Be,this.2.elim id Be⟩
theorem cH7 (h:a∈l):∃b,adj l a b:=by
 obtain⟨u,w,rfl⟩:=Ad5 h;obtain⟨b,r,e⟩:∃b r,(w++(u++[a]).take 1)=b::r:=by
  cases w with
  | nil=>cases u with
   | nil=>exact⟨a,[],rfl⟩
   | cons c u=>exact⟨c,[],rfl⟩
  | cons c w=>exact⟨c,_,rfl⟩
 refine⟨b,?_⟩;unfold adj;have t:(u++a::w).take 1=(u++[a]).take 1:=by cases u <;> simp
 rw[t,Ad7,Ab6,e,K6,D1];exact .inr (.inl ⟨rfl,rfl⟩)
theorem aA8 (nd:l.Nodup)(h1:adj l a b)(J:adj l a c):b=c:=by
 have M:=(C6 h1).1
 obtain⟨u,w,rfl⟩:=Ad5 M;have j:=(p8 u (a::w) a b).mpr h1;have s:=(p8 u (a::w) a c).mpr J;have nd':(a::w++u).Nodup:=by grind
 unfold adj at j s;generalize w++u=v at *;have e:a::w++u=a::(w++u):=rfl;cases Y:w++u with
 | nil=>
  rw[e,Y]at j s
  simp[lin]at j s
  lia
 | cons d r=>
  rw[e,Y]at j s nd';have q:∀z,lin (a::d::r++List.take 1 (a::d::r)) a z->z=d:=λz X=>by
   have U:a::d::r++List.take 1 (a::d::r)=a::d::(r++[a]):=by simp
   rw[U,D1]at X;rcases X with h | h
   .exact h.2
   .have:=T7 (u:=d::r) (c:=a) (by simpa using h)
    grind
  rw[q b j,q c s]
def mn (l:AC):Nat:=l.min?.getD 0
theorem eT4 (h:m∈l)(h':∀a∈l,m<=a):mn l=m:=by
 unfold mn;rw[List.min?_eq_some_iff.mpr ⟨h,h'⟩];rfl
theorem aO7 (h:l≠[]):mn l∈l/\∀a∈l,mn l<=a:=by
 unfold mn;cases e:l.min? with
 | none=>exact absurd (List.min?_eq_none_iff.mp e) h
 | some m=>exact List.min?_eq_some_iff.mp e
def B5 (l:AC):AC:=l.drop (l.idxOf (mn l))++l.take (l.idxOf (mn l))
theorem aS0 (l:AC):(B5 l).Perm l:=by
 unfold B5;exact(Cq).trans (by rw[Ad3])
theorem dB3 (l:AC)(a b:Nat):adj (B5 l) a b↔adj l a b:=by
 unfold B5;rw[p8,Ad3]
theorem cP3 (h:l≠[]):∃r,B5 l=mn l::r:=by
 have e:=(aO7 h).1
 have hi:=Cc.mpr e
 unfold B5;rw[Cb hi];exact⟨_,by rw[List.getElem_idxOf hi];rfl⟩
theorem bZ8 (l:AC):(B5 l).length=l.length:=(aS0 l).length_eq
theorem dB6:a∈B5 l↔a∈l:=(aS0 l).mem_iff
theorem begun_nodup:(B5 l).Nodup↔l.Nodup:=(aS0 l).nodup_iff
theorem aK2 (w:z∉a)(e:mn (a++z::b)=z):B5 (a++z::b)=z::(b++a):=by
 unfold B5;have r:(a++z::b).idxOf z=a.length:=by rw[List.idxOf_append,Ab w];simp
 rw[e,r]
 simp
theorem cN1 (nd:(u++w).Nodup):B5 (w++u)=B5 (u++w):=by
 by_cases Y:u++w=[]
 .simp at Y;obtain⟨rfl,rfl⟩:=Y;rfl
 have m:=aO7 Y
 have e:mn (w++u)=mn (u++w):=eT4 (by grind) (λa J=>m.2 a (by grind))
 generalize r:mn (u++w)=z at *;rcases Aa0.mp m.1 with U | hw
 .obtain⟨a,b,rfl⟩:=Ad5 U;have X:z∉a:=by grind
  have nw:z∉w:=by grind
  have j:a++z::b++w=a++z::(b++w):=by simp
  have s:w++(a++z::b)=(w++a)++z::b:=by simp
  rw[j]at r ⊢;rw[s]at e ⊢;rw[aK2 X r,aK2 (by grind) e]
  simp
 .obtain⟨a,b,rfl⟩:=Ad5 hw;have X:z∉a:=by grind
  have nu:z∉u:=by grind
  have j:u++(a++z::b)=(u++a)++z::b:=by simp
  have s:a++z::b++u=a++z::(b++u):=by simp
  rw[j]at r ⊢;rw[s]at e ⊢;rw[aK2 (by grind) r,aK2 X e]
  simp
structure Good (n:Nat)(r:Nat->AC):Prop where
 nd:∀q,(r q).Nodup
 self:∀q,q∉r q
 tri:∀q a b,adj (r q) a b->adj (r a) b q
 lt:∀q,∀p∈r q,p<n
 hi:∀q,n<=q->r q=[]
 two:∀q,q<n->2<=(r q).length
 out:adj (r 2) 1 0
 conn:∀R:Nat->Prop,R 0->(∀a b,R a->b∈r a->R b)->∀q,q<n->R q
 sum:((List.range n).map λq=>(r q).length).sum+12=6*n
 three:3<=n
theorem Good.sym {n:Nat}{r:Nat->AC}(G:Good n r){p q:Nat}(h:q∈r p):p∈r q:=by
 obtain⟨b,e⟩:=cH7 h;exact(C6 (G.tri _ _ _ e)).2
structure cI8 (s:S):Prop where
 two:∀q,q<s.k+3->2<=(s.row q).length
 o0:∀q,3<=q->q<s.k+3->s.o0 q<q/\s.o0 q∈s.row q
 sum:((List.range (s.k+3)).map λq=>(s.row q).length).sum+12=6*(s.k+3)
theorem cQ0:cI8 S.first where
 two:=λq h=>by
  have h:q<3:=h
  match q,h with
  | 0,_=>decide
  | 1,_=>decide
  | 2,_=>decide
 o0:=λq h e=>by
  have e:q<3:=e
  lia
 sum:=by decide
theorem cR8 {n:Nat}{f g:Nat->Nat}{l:AC}(nd:l.Nodup)(r:∀q∈l,q<n)(h:∀q,q<n->q∉l->f q=g q) :
  ((List.range n).map f).sum+(l.map g).sum=((List.range n).map g).sum+(l.map f).sum:=by
 induction l generalizing f with
 | nil=>
  have:(List.range n).map f=(List.range n).map g:=Bk λq w=>h q (Ab5.mp w) (by simp)
  simp[this]
 | cons c l Y=>
  have J:=r c (by simp)
  have nd':=Aa5.mp nd
  have s:∀(f:Nat->Nat) (x:Nat),((List.range n).map λq=>if q=c then x else f q).sum+f c=((List.range n).map f).sum+x:=by
   intro f x
   clear h Y r nd nd'
   induction n with
   | zero=>lia
   | succ n j=>
    rw[Bh,Ad2,Ad2,List.sum_append,List.sum_append];by_cases e:c=n
    .subst e
     have:(List.range c).map (λq=>if q=c then x else f q)=(List.range c).map f:=Bk λq w=>by
      have:=Ab5.mp w
      rw[Ab (by lia)]
     rw[this]
     simp
     lia
    .have:=j (by lia)
     simp only[Ac7,By,List.sum_cons,List.sum_nil];rw[Ab (Ne.symm e)]
     lia
  have M:=s f (g c)
  have:=Y (f:=λq=>if q=c then g c else f q) nd'.2 (λq w=>r q (by simp[w])) (λq w U=>by
   by_cases e:q=c
   .subst e;simp
   .simp only[Ab e];exact h q w (by simp[e,U]))
  have X:(l.map λq=>if q=c then g c else f q)=l.map f:=Bk λq w=>by
   rw[Ab (by rintro rfl;exact nd'.1 w)]
  rw[X]at this;simp only[Ac7,List.sum_cons]
  lia
theorem dC6 (I:bY6 s)(M:cI8 s)(ha:a<s.path.length)(hb:b<a+s.heap.length):cI8 (s.step a b):=by
 obtain⟨x,px,y,F,ex,ey,E,I'⟩:=cX6 I ha hb;obtain⟨⟨f1,f2,f3,f4,f5⟩,fc,nd⟩:=E.facts;have hx:x<s.k+3:=I.lt 2 x (by rw[E.two];simp)
 have hyl:y<s.k+3:=I.lt 2 y (by rw[E.two];simp)
 have lx:((s.step a b).row x).length=(s.row x).length+1:=by
  obtain⟨u,z,w,o,n⟩:=E.rx;rw[o,n];simp;lia
 have ly:((s.step a b).row y).length=(s.row y).length+1:=by
  obtain⟨u,w,o,n⟩:=E.ry;rw[o,n];simp;lia
 have P:∀q,q≠2->q≠s.k+3->q≠x->q≠y->((s.step a b).row q).length=(s.row q).length:=λq J j X U=>by
  by_cases Q:q∈(s.h1 a).take b
  .obtain⟨u,z,w,o,n⟩:=E.rc q Q;rw[o,n];simp
  .rw[E.rest q J j X U Q]
 have B:((s.step a b).row 2).length=px.length+3+F.length:=by rw[E.new2];simp;lia
 have g2:(s.row 2).length=px.length+2+((s.h1 a).take b).length+F.length:=by rw[E.two];simp only[Ab7,Av,Ae1];lia
 have lv:((s.step a b).row (s.k+3)).length=((s.h1 a).take b).length+3:=by rw[E.newv];simp only[Ab7,Av,List.length_nil]
 have N:(s.row (s.k+3)).length=0:=by rw[E.oldv];rfl
 refine⟨λq r=>?_,λq R r=>?_,?_⟩
 .have r:q<s.k+1+3:=r
  by_cases J:q=2
  .rw[J,B];lia
  by_cases j:q=s.k+3
  .rw[j,lv];lia
  have:=M.two q (by lia)
  by_cases X:q=x
  .rw[X,lx];rw[X]at this;lia
  by_cases U:q=y
  .rw[U,ly];rw[U]at this;lia
  rw[P q J j X U];exact this
 .have hq':q<s.k+1+3:=r
  refine⟨?_,by rw[W9 R r];simp⟩
  by_cases j:q=s.k+3
  .subst j;simp only[S.step,ex,Bp,G6];exact hx
  .simp only[S.step];rw[F5 j];exact(M.o0 q R (by lia)).1
 .show((List.range (s.k+1+3)).map λq=>((s.step a b).row q).length).sum+12=6*(s.k+1+3)
  have sc:=cR8 (n:=s.k+1+3) (f:=λq=>((s.step a b).row q).length) (g:=λq=>(s.row q).length) (l:=[2,s.k+3,x,y]) (by
   have:=E.v2
   simp only[Aa5,Aa1,Ac2,or_false,not_or,List.nodup_nil,not_false_eq_true,and_true];exact⟨⟨by lia,Ne.symm f2,Ne.symm f3⟩,⟨Ne.symm f4,Ne.symm f5⟩,f1⟩) (by
   intro q r;simp only[Aa1,Ac2,or_false]at r
   lia) (by
   intro q r Y;simp only[Aa1,Ac2,or_false,not_or]at Y;exact P q Y.1 Y.2.1 Y.2.2.1 Y.2.2.2)
  simp only[Ac7,By,List.sum_cons,List.sum_nil]at sc;have e:((List.range (s.k+1+3)).map λq=>(s.row q).length).sum=((List.range (s.k+3)).map λq=>(s.row q).length).sum:=by
   rw[show s.k+1+3=(s.k+3)+1 by lia,Bh,Ad2,List.sum_append]
   simp only[Ac7,By,List.sum_cons,List.sum_nil,N]
   lia
  have:=M.sum
  rw[B,lv,lx,ly,g2,N,e]at sc
  lia
theorem dE0 (I:bY6 s)(M:cI8 s):Good (s.k+3) s.row where
 nd:=I.nd
 self:=I.self
 tri:=I.tri
 lt:=I.lt
 hi:=λq h=>cE0 h
 two:=M.two
 out:=by
  obtain⟨p,X⟩:=I.pe;obtain⟨h,Y⟩:=I.he;rw[aV9,X,Y];unfold adj
  have:(p++[0]).reverse++(h++[1])++((p++[0]).reverse++(h++[1])).take 1=(0::p.reverse++h)++1::[0]:=by simp
  rw[this,K6,D1];exact .inr (.inl ⟨rfl,rfl⟩)
 conn:=λR w r q N=>by
  have j:∀b∈s.row 0,R b:=λb e=>r 0 b w e
  have F:(1:Nat)∈s.row 0:=by rw[aU7];simp
  have B:(2:Nat)∈s.row 0:=by rw[aU7];simp
  have sym:∀p q,q∈s.row p->p∈s.row q:=λp q h=>by
   obtain⟨b,e⟩:=cH7 h;exact(C6 (I.tri _ _ _ e)).2
  induction q using Nat.strongRecOn with
  | _ q Q=>
   by_cases J:3<=q
   .obtain⟨h1,U⟩:=M.o0 q J N;exact r _ _ (Q _ h1 (by lia)) (sym _ _ U)
   .have:q=0\/q=1\/q=2:=by lia
    rcases this with rfl | rfl | rfl
    .exact w
    .exact j 1 F
    .exact j 2 B
 sum:=M.sum
 three:=by lia
structure Nm (n:Nat)(f:Nat->Nat):Prop where
 lt:∀v,v<n->f v<n
 inj:∀v w,v<n->w<n->f v=f w->v=w
 c0:f 0=0
 c1:f 1=1
 c2:f 2=2
theorem bT2 {l:AC}(nd:l.Nodup):∀{m:AC},(∀x∈l,x∈m)->l.length<=m.length:=by
 induction l with
 | nil=>intro m _;simp
 | cons a l r=>
  intro m h;have nd':=Aa5.mp nd;have e:a∈m:=h a (by simp)
  have:=r nd'.2 (m:=m.erase a) λx w=>(List.mem_erase_of_ne (by rintro rfl;exact nd'.1 w)).mpr (h x (by simp[w]))
  have j:=De e
  have:=Cn e
  simp only[Av]
  lia
theorem Nm.surj (h:Nm n f)(q:Nat)(M:q<n):∃v,v<n/\f v=q:=by
 have nd:((List.range n).map f).Nodup:=by
  rw[Ac6,Ae0];refine Cs ?_ (Ac6.mp Di);intro a b X U j e;exact j (h.inj a b (Ab5.mp X) (Ab5.mp U) e)
 have Y:(List.range n).map f ⊆ List.range n:=λx r=>by
  obtain⟨v,s,rfl⟩:=Aa8.mp r;exact Ab5.mpr (h.lt v (Ab5.mp s))
 have:q∈(List.range n).map f:=Classical.byContradiction λJ=>by
  have w:=Ab5.mpr M
  have:=bT2 nd (m:=(List.range n).erase q) λx r=>(List.mem_erase_of_ne (by rintro rfl;exact J r)).mpr (Y r)
  have N:=De w
  have:=Cn w
  simp only[Aa3,Cz]at *
  lia
 obtain⟨v,s,e⟩:=Aa8.mp this;exact⟨v,Ab5.mp s,e⟩
theorem Good.named (G:Good n r)(F:Nm n f)(h:∀v,v<n->r' (f v)=B5 ((r v).map f))(Q:∀q,n<=q->r' q=[]):Good n r':=by
 have dI1:∀v,v<n->∀x y,adj (r' (f v)) x y↔∃a b,x=f a/\y=f b/\adj (r v) a b:=λv w x y=>by rw[h v w,dB3,dW8]
 have s:∀v,v<n->∀x,x∈r' (f v)↔∃a,a∈r v/\x=f a:=λv w x=>by
  rw[h v w,dB6,Aa8];exact⟨λ⟨a,h1,h2⟩=>⟨a,h1,h2.symm⟩,λ⟨a,h1,h2⟩=>⟨a,h1,h2.symm⟩⟩
 have P:∀q,n<=q\/∃v,v<n/\f v=q:=λq=>by
  by_cases j:n<=q
  .exact .inl j
  .exact .inr (F.surj q (by lia))
 have B:∀v,v<n->(r' (f v)).length=(r v).length:=λv w=>by rw[h v w,bZ8,Aa3]
 refine⟨λq=>?_,λq=>?_,λq a b X=>?_,λq p hp=>?_,Q,λq j=>?_,?_,λR h0 hR q j=>?_,?_,G.three⟩
 .rcases P q with j | ⟨v,w,rfl⟩
  .rw[Q q j];simp
  .rw[h v w,begun_nodup,Ac6,Ae0];refine Cs ?_ (Ac6.mp (G.nd v));intro a b Y U J e;exact J (F.inj a b (G.lt v a Y) (G.lt v b U) e)
 .rcases P q with j | ⟨v,w,rfl⟩
  .rw[Q q j];simp
  .intro hm;obtain⟨a,Y,e⟩:=(s v w _).mp hm;exact G.self v (F.inj v a w (G.lt v a Y) e▸Y)
 .rcases P q with j | ⟨v,w,rfl⟩
  .rw[Q q j]at X;exact X.elim
  .obtain⟨c,d,rfl,rfl,N⟩:=(dI1 v w _ _).mp X;exact(dI1 c (G.lt v c (C6 N).1) _ _).mpr ⟨d,v,rfl,rfl,G.tri _ _ _ N⟩
 .rcases P q with j | ⟨v,w,rfl⟩
  .rw[Q q j]at hp;exact absurd hp (by simp)
  .obtain⟨a,Y,rfl⟩:=(s v w _).mp hp;exact F.lt a (G.lt v a Y)
 .obtain⟨v,w,rfl⟩:=F.surj q j;rw[B v w];exact G.two v w
 .have:=G.three
  have:=(dI1 2 (by lia) 1 0).mpr ⟨1,0,F.c1.symm,F.c0.symm,G.out⟩
  rwa [F.c2]at this
 .obtain⟨v,w,rfl⟩:=F.surj q j
  have:=G.three
  refine G.conn (λv=>v<n->R (f v)) (λ_=>by rw[F.c0];exact h0) (λa b Y U hbn=>?_) v w w
  by_cases M:a<n
  .exact hR _ _ (Y M) ((s a M _).mpr ⟨b,U,rfl⟩)
  .rw[G.hi a (by lia)]at U;exact absurd U (by simp)
 .have p:((List.range n).map f).Perm (List.range n):=by
   refine(List.perm_ext_iff_of_nodup ?_ Di).mpr λq=>?_
   .rw[Ac6,Ae0];refine Cs ?_ (Ac6.mp Di);intro a b Y U J e;exact J (F.inj a b (Ab5.mp Y) (Ab5.mp U) e)
   .constructor
    .intro j;obtain⟨v,w,rfl⟩:=Aa8.mp j;exact Ab5.mpr (F.lt v (Ab5.mp w))
    .intro j;obtain⟨v,w,rfl⟩:=F.surj q (Ab5.mp j);exact Aa8.mpr ⟨v,Ab5.mpr w,rfl⟩
  have e1:=(p.map λq=>(r' q).length).sum_nat
  have e2:((List.range n).map f).map (λq=>(r' q).length)=(List.range n).map λv=>(r v).length:=by
   rw[Ae2];exact Bk λv w=>B v (Ab5.mp w)
  rw[e2]at e1;rw[<- e1];exact G.sum
def pv (F:Nat->Nat):Nat->Nat
 | 0=>0
 | i+1=>F i
def gst (F G:Nat->Nat):Nat->S
 | 0=>S.first
 | i+1=>(gst F G i).step (F i-pv F i) (G i-pv G i)
structure Rws (F G:Nat->Nat)(m:Nat):Prop where
 f1:∀i,i<m->pv F i<=F i
 f2:∀i,i<m->F i<=i
 g1:∀i,i<m->pv G i<=G i
 g2:∀i,i<m->G i<=F i
structure eX3 (F G:Nat->Nat)(i:Nat):Prop where
 inv:bY6 (gst F G i)
 more:cI8 (gst F G i)
 k:(gst F G i).k=i
 p:(gst F G i).path.length+pv F i=1+i
 h:(gst F G i).heap.length+pv G i=1+pv F i
 le:pv F i<=i
 le2:pv G i<=pv F i
theorem k8 (R:Rws F G m):∀i,i<=m->eX3 F G i
 | 0,_=>⟨cO6,cQ0,rfl,rfl,rfl,Aa7 _,Aa7 _⟩
 | i+1,hi=>by
  have I:=k8 R i (by lia)
  have f1:=R.f1 i (by lia)
  have f2:=R.f2 i (by lia)
  have X:=R.g1 i (by lia)
  have j:=R.g2 i (by lia)
  have h1:=I.p
  have U:=I.h
  have e:F i-pv F i<(gst F G i).path.length:=by lia
  have w:G i-pv G i<(F i-pv F i)+(gst F G i).heap.length:=by lia
  obtain⟨x,M,y,J,s,Y,E,r⟩:=cX6 I.inv e w;refine⟨r,dC6 I.inv I.more e w,?_,?_,?_,?_,j⟩
  .show(gst F G i).k+1=i+1
   rw[I.k]
  .show(((gst F G i).k+3)::(gst F G i).path.drop (F i-pv F i)).length+F i=1+(i+1)
   rw[Av,Bm]
   lia
  .show(((gst F G i).h1 (F i-pv F i)).drop (G i-pv G i)).length+G i=1+F i
   rw[Bm];unfold S.h1;rw[Ab7,Ae1,Ad1]
   lia
  .show F i<=i+1
   lia
theorem dO5 (R:Rws F G m):Good (m+3) (gst F G m).row:=by
 have I:=k8 R m (Aa7 _)
 have:=dE0 I.inv I.more
 rwa [I.k]at this
theorem eD9 (F G:Nat->Nat):∀i,(gst F G i).k=i
 | 0=>rfl
 | i+1=>by show(gst F G i).k+1=i+1;rw[eD9 F G i]
def pa (F G:Nat->Nat)(v:Nat):AC:=(gst F G (v-2)).path.tail
def hp (F G:Nat->Nat)(v:Nat):AC:=(gst F G (v-2)).heap
theorem aO2 (F G:Nat->Nat)(i:Nat):(gst F G (i+1)).path=(i+3)::pa F G (i+3):=by
 show((gst F G i).k+3)::(gst F G i).path.drop (F i-pv F i)=_
 rw[eD9];rfl
section
structure At (F G:Nat->Nat)(i:Nat):Prop where
 pe:∃p,pa F G (i+3)=p++[0]
 he:∃h,hp F G (i+3)=h++[1]
 nd:((i+3)::(pa F G (i+3)++hp F G (i+3))).Nodup
 lt:∀x,x∈pa F G (i+3)\/x∈hp F G (i+3)->x<i+3/\x≠2
theorem eT2 (R:Rws F G m)(hi:i<m):At F G i:=by
 have I:=k8 R (i+1) (by lia)
 have nd:=I.inv.nd 2
 rw[aV9,aO2]at nd;have lt:=I.inv.lt 2;rw[aV9,aO2,I.k]at lt;have r:=I.inv.bd;obtain⟨p,e⟩:=I.inv.pe;obtain⟨h,j⟩:=I.inv.he;rw[aO2]at e;have nd':((i+3)::(pa F G (i+3)++hp F G (i+3))).Nodup:=by
  have w:(((i+3)::pa F G (i+3)).reverse++(gst F G (i+1)).heap).Perm ((i+3)::(pa F G (i+3)++hp F G (i+3))):=by
   show(((i+3)::pa F G (i+3)).reverse++(gst F G (i+1)).heap).Perm (((i+3)::pa F G (i+3))++(gst F G (i+1)).heap)
   exact(List.reverse_perm _).append_right _
  exact w.nodup_iff.mp nd
 refine⟨?_,⟨h,j⟩,nd',λx hx=>?_⟩
 .cases p with
  | nil=>simp at e
  | cons y p=>simp only[Ab6,Ax]at e;exact⟨p,e.2⟩
 .have h1:=lt x (by
   rcases hx with hx | hx
   .simp[hx]
   .exact Ac1 _ hx)
  have s:=(r x (by
   rcases hx with hx | hx
   .left;rw[aO2];simp[hx]
   .right;exact hx)).1
  have Y:x≠i+3:=by
   rintro rfl
   have:=(Aa5.mp nd').1
   exact this (Aa0.mpr hx)
  lia
end
structure Bt (F G:Nat->Nat)(m:Nat)(f:Nat->Nat)(d t:AA):Prop where
 R:Rws F G m
 N:Nm (m+3) f
 dl:d.length=m+3
 dr:∀v,v<m+3->d[f v]? = some (B5 (((gst F G m).row v).map f))
 tl:t.length=m
 tr:∀v,3<=v->v<m+3->t[f v-3]? = some [f ((gst F G m).o0 v),f ((gst F G m).o1 v),f ((gst F G m).o2 v)]
theorem Nm.lo (N:Nm n f)(h:3<=n)(w:q<n):f q<3↔q<3:=by
 constructor
 .intro Y;have r:=N.c0;have j:=N.c1;have s:=N.c2;rcases (show f q=0\/f q=1\/f q=2 by lia) with e | e | e
  .have:=N.inj q 0 w (by lia) (by lia);lia
  .have:=N.inj q 1 w (by lia) (by lia);lia
  .have:=N.inj q 2 w (by lia) (by lia);lia
 .intro Y;have r:=N.c0;have j:=N.c1;have s:=N.c2;rcases (show q=0\/q=1\/q=2 by lia) with e | e | e <;> subst e <;> lia
section
def trn (d:AA)(q:Nat):AC:=d[q]?.getD []
theorem Bt.good (B:Bt F G m f d t):Good (m+3) (trn d):=by
 refine Good.named (dO5 B.R) B.N (λv w=>?_) λq e=>?_
 .unfold trn;rw[B.dr v w];rfl
 .unfold trn;rw[Ad6 (by rw[B.dl];exact e)];rfl
end
theorem k7 {a b:AC}(h:(a++b).Nodup):∀x,x∈a->x∈b->False:=λx h1 e=>(Aa4.mp h).2.2 x h1 x e rfl
structure eV5 (F G:Nat->Nat)(i:Nat):Prop where
 k:(gst F G i).k=i
 a:F i-pv F i<(gst F G i).path.length
 b:G i-pv G i<((gst F G i).h1 (F i-pv F i)).length
 pl:(gst F G i).path.length<=i+1
 hl:((gst F G i).h1 (F i-pv F i)).length<=i+2
 lo:∀x∈((gst F G i).h1 (F i-pv F i)).take (G i-pv G i),3<=x/\x<i+3
 px:∃x r,(gst F G i).path.drop (F i-pv F i)=x::r/\x<i+3/\((gst F G i).i0 x).length<=i+3
 hy:∃y r,((gst F G i).h1 (F i-pv F i)).drop (G i-pv G i)=y::r/\y<i+3/\((gst F G i).i1 y).length<=i+3
 e0:(gst F G i).i0 (i+3)=[]
 e1:(gst F G i).i1 (i+3)=[]
theorem dT0 {l:AC}{n:Nat}(nd:l.Nodup)(h:∀x∈l,x<n):l.length<=n:=by
 have:=bT2 nd (m:=List.range n) λx e=>Ab5.mpr (h x e)
 simpa using this
theorem bK7 (I:bY6 s)(q:Nat):(s.row q).length<=s.k+3:=dT0 (I.nd q) (I.lt q)
theorem eH5 (I:bY6 s)(h:q<s.k+3)(w:q≠2)(h1:q≠1):(s.i0 q).length<=s.k+3:=by
 have:=bK7 I q
 by_cases e:q=0
 .subst e;rw[aU7]at this;simp at this;lia
 .rw[W9 (by lia) h]at this;simp at this;lia
theorem eH1 (I:bY6 s)(h:q<s.k+3)(e:q≠2)(h0:q≠0):(s.i1 q).length<=s.k+3:=by
 have:=bK7 I q
 by_cases h1:q=1
 .subst h1;rw[bM6]at this;simp at this;lia
 .rw[W9 (by lia) h]at this;simp at this;lia
theorem eH0 (R:Rws F G m)(hi:i<m):eV5 F G i:=by
 have I:=k8 R i (by lia)
 have A:=eT2 R hi
 have f1:=R.f1 i hi
 have f2:=R.f2 i hi
 have g1:=R.g1 i hi
 have g2:=R.g2 i hi
 have h1:=I.p
 have h2:=I.h
 have nd:=I.inv.nd 2
 have lt:=I.inv.lt 2
 rw[aV9]at nd lt;rw[I.k]at lt;have hx1:((gst F G i).h1 (F i-pv F i)).length=(F i-pv F i)+(gst F G i).heap.length:=by
  unfold S.h1;rw[Ab7,Ae1,Ad1];lia
 obtain⟨p,hp⟩:=A.pe;obtain⟨h,hh⟩:=A.he;have B:(gst F G i).path.drop (F i-pv F i)=p++[0]:=by rw[<- hp];rfl
 have e2:((gst F G i).h1 (F i-pv F i)).drop (G i-pv G i)=h++[1]:=by rw[<- hh];rfl
 have Y:∀x,x∈(gst F G i).path\/x∈(gst F G i).heap->x<i+3/\x≠2:=λx hx=>⟨lt x (by rcases hx with hx | hx <;> simp[hx]),(I.inv.bd x hx).1⟩
 have j:∀x∈(gst F G i).h1 (F i-pv F i),x∈(gst F G i).path.take (F i-pv F i)\/x∈(gst F G i).heap:=λx hx=>by
  unfold S.h1 at hx;simpa using hx
 have s:∀x∈(gst F G i).h1 (F i-pv F i),x∈(gst F G i).path\/x∈(gst F G i).heap:=λx hx=>(j x hx).imp Be id
 have J:((gst F G i).path.take (F i-pv F i)++(gst F G i).path.drop (F i-pv F i)).Nodup:=by
  rw[Ad3]
  have:=(Aa4.mp nd).1
  exact(List.reverse_perm _).nodup_iff.mp this
 have ndh:((gst F G i).h1 (F i-pv F i)).Nodup:=by
  unfold S.h1;refine Aa4.mpr ⟨?_,(Aa4.mp nd).2.1,λx hx y hy e=>?_⟩
  .exact(List.reverse_perm _).nodup_iff.mpr (Aa4.mp J).1
  .subst e;exact k7 nd x (by simpa using Be (Dv.mp hx)) hy
 refine⟨I.k,by lia,by lia,by lia,by lia,λx hx=>?_,?_,?_,?_,?_⟩
 .have N:=Be hx
  obtain⟨U,Q⟩:=Y x (s x N);refine⟨?_,U⟩;have n1:x≠1:=λe=>by
   subst e;have nd':=ndh;rw[<- Ad3 (G i-pv G i) ((gst F G i).h1 (F i-pv F i))]at nd';exact k7 nd' 1 hx (by rw[e2];simp)
  have n0:x≠0:=λe=>by
   subst e;have z:0∈(gst F G i).path.drop (F i-pv F i):=by rw[B];simp
   rcases j 0 N with w | w
   .exact k7 J 0 w z
   .exact k7 nd 0 (by simpa using Cr z) w
  lia
 .cases X:(gst F G i).path.drop (F i-pv F i) with
  | nil=>rw[B]at X;simp at X
  | cons x r=>
   have M:x∈(gst F G i).path:=Cr (by rw[X];simp:x∈(gst F G i).path.drop (F i-pv F i))
   obtain⟨U,Q⟩:=Y x (.inl M);refine⟨x,r,rfl,U,?_⟩;have n1:x≠1:=λe=>by
    subst e;obtain⟨h',P⟩:=I.inv.he;exact k7 nd 1 (by simpa using M) (by rw[P];simp)
   have:=eH5 I.inv (q:=x) (by rw[I.k];exact U) Q n1
   rwa [I.k]at this
 .cases X:((gst F G i).h1 (F i-pv F i)).drop (G i-pv G i) with
  | nil=>rw[e2]at X;simp at X
  | cons y r=>
   have M:y∈(gst F G i).h1 (F i-pv F i):=Cr (by rw[X];simp:y∈((gst F G i).h1 (F i-pv F i)).drop (G i-pv G i))
   obtain⟨U,Q⟩:=Y y (s y M);refine⟨y,r,rfl,U,?_⟩;have n0:y≠0:=λe=>by
    subst e;have z:0∈(gst F G i).path.drop (F i-pv F i):=by rw[B];simp
    rcases j 0 M with w | w
    .exact k7 J 0 w z
    .exact k7 nd 0 (by simpa using Cr z) w
   have:=eH1 I.inv (q:=y) (by rw[I.k];exact U) Q n0
   rwa [I.k]at this
 .exact(I.inv.emp (i+3) (by rw[I.k];lia)).1
 .exact(I.inv.emp (i+3) (by rw[I.k];lia)).2
theorem dQ1 (R:Rws F G m):∀i,i<=m->(gst F G i).i2 2=[]
 | 0,_=>rfl
 | i+1,h=>by
  show put (gst F G i).i2 ((gst F G i).k+3) (((gst F G i).h1 (F i-pv F i)).take (G i-pv G i)) 2=[]
  rw[F5 (by lia)]
  exact dQ1 R i (by lia)
end TT
namespace LV
open PySem L2
theorem eB5 {K:Frag}{ρ:List Sl}(w:List Sl){c:TT}{t u:TS}{b:Bool}{R:AE}(h:T K c ρ b)(h1:b=true->W K t ρ {R with nx:=λr=>r=w})(s:b=false->W K u ρ {R with nx:=λr=>r=w})(j:R.nx w):W K (bN3 c t u) ρ R:=
 K9 h (λe=>(h1 e).weak (λr z=>by rw[z];exact j) (λ_ z=>z) (λ_ z=>z) (λ_ z=>z) (λ_ z=>z)) (λe=>(s e).weak (λr z=>by rw[z];exact j) (λ_ z=>z) (λ_ z=>z) (λ_ z=>z) (λ_ z=>z))
def Sl.nb:Sl->Bool
 | .bor _=>false
 | _=>true
theorem aH2:i7 (x::r)=(x.nb&&i7 r):=by cases x <;> rfl
theorem Z8 (h:(aG2 0 n)[i]? = some d):d=.int (i:Int)/\i<n:=by
 unfold aG2 at h;have e:=(Ab0.mp h).1;have e:i<n:=by simpa using e
 rw[Aa9,List.getElem?_range e]at h;refine⟨?_,e⟩
 have:=(Ab4 h).symm
 simpa using this
theorem W2:(aG2 lo n).length=n:=by simp[aG2]
def nI (l:AC):AF:=l.map λ(x:Nat)=>PyData.int (x:Int)
def lN (l:AC):PyData:=.list (nI l)
def oN (l:AC):OT:=.lst (l.map λ(x:Nat)=>OT.leaf (.int (x:Int)))
def fl (F:Nat->Nat)(m:Nat):AD:=(List.range m).map λi=>(F i:Int)
def Q3 (k:Nat)(o0 o1 o2:Nat->Nat):OT:=.lst ((List.range k).map λj=>oN [o0 (j+3),o1 (j+3),o2 (j+3)])
def M1 (n:Nat)(i0 i1 i2:Nat->AC):OT:=.lst ((List.range n).map λq=>.tup [oN (i0 q),oN (i1 q),oN (i2 q)])
theorem G5 (l:AC):(nI l).length=l.length:=by simp[nI]
theorem L9 (l:AC):N8 (nI l)=true:=aY0 (λ_=>rfl) l
theorem o9 (l l':AC):nI (l++l')=nI l++nI l':=by simp[nI]
theorem eH6 (l:AC):nI l.reverse=(nI l).reverse:=by simp[nI]
theorem cZ5 (l:AC):(oN l).data=lN l:=by
 unfold oN lN nI;simp only[OT.data];rw[aO6 (g:=λx:Nat=>PyData.int (x:Int)) (λ_=>rfl)]
theorem dA7 (k:Nat)(o0 o1 o2:Nat->Nat):(Q3 k o0 o1 o2).data=.list ((List.range k).map λj=>lN [o0 (j+3),o1 (j+3),o2 (j+3)]):=by
 unfold Q3;simp only[OT.data];rw[aO6 (λj=>cZ5 _)]
theorem dB0 (n:Nat)(i0 i1 i2:Nat->AC):(M1 n i0 i1 i2).data=.list ((List.range n).map λq=>.tuple [lN (i0 q),lN (i1 q),lN (i2 q)]):=by
 unfold M1;simp only[OT.data];rw[aO6 (g:=λq=>PyData.tuple [lN (i0 q),lN (i1 q),lN (i2 q)]) (λq=>by simp only[OT.data,OT.datas,cZ5])]
theorem cV8 (h:i<m):atI ((fl F m).map PyData.int) (i:Int)=some (.int (F i:Int)):=S1 i rfl (by simp[fl,h])
theorem Z0 (h:q<n):((List.range n).map f)[q]? = some (f q):=by simp[h]
theorem aA3 (r:q<n)(h1:h (f q)=g q)(s:∀j,j≠q->f j=g j):((List.range n).map f).modify q h=(List.range n).map g:=by
 rw[Y1 (Z0 r),h1];refine List.ext_getElem? λj=>?_
 rw[List.getElem?_set];by_cases e:q=j
 .subst e;simp[r]
 .rw[Ab e];by_cases w:j<n
  .rw[Z0 w,Z0 w,s j (λz=>e z.symm)]
  .rw[Ad6 (by simp;lia),Ad6 (by simp;lia)]
section
theorem aU1 (h:q<n):(M1 n i0 i1 i2).at [q]=some (.tup [oN (i0 q),oN (i1 q),oN (i2 q)]):=by
 show((M1 n i0 i1 i2).kids[q]?).bind _=_
 unfold M1;simp only[OT.kids];rw[Z0 h];rfl
theorem dX1 (h:q<n):(M1 n i0 i1 i2).at ([q]++[0])=some (oN (i0 q)):=by rw[bD2 (aU1 h)];rfl
theorem dV5 (h:q<n):(M1 n i0 i1 i2).at ([q]++[1])=some (oN (i1 q)):=by rw[bD2 (aU1 h)];rfl
theorem cY8 (h:q<n):(M1 n i0 i1 i2).at ([q]++[2])=some (oN (i2 q)):=by rw[bD2 (aU1 h)];rfl
theorem eM1 (h:j<k):(Q3 k o0 o1 o2).at [j]=some (oN [o0 (j+3),o1 (j+3),o2 (j+3)]):=by
 show((Q3 k o0 o1 o2).kids[j]?).bind _=_
 unfold Q3;simp only[OT.kids];rw[Z0 h];rfl
theorem dE7 (h:q<n)(l:AC):(M1 n i0 i1 i2).put ([q]++[0]) (oN l)=M1 n (TT.put i0 q l) i1 i2:=by
 unfold M1;rw[List.singleton_append,OT.put_lst]
 congr 1
 refine aA3 h ?_ λj e=>by simp only[TT.F5 e]
 rw[OT.put_tup,TT.G6];rfl
theorem dL8 (h:q<n)(l:AC):(M1 n i0 i1 i2).put ([q]++[1]) (oN l)=M1 n i0 (TT.put i1 q l) i2:=by
 unfold M1;rw[List.singleton_append,OT.put_lst]
 congr 1
 refine aA3 h ?_ λj e=>by simp only[TT.F5 e]
 rw[OT.put_tup,TT.G6];rfl
theorem dK0 (h:q<n)(l:AC):(M1 n i0 i1 i2).put ([q]++[2]) (oN l)=M1 n i0 i1 (TT.put i2 q l):=by
 unfold M1;rw[List.singleton_append,OT.put_lst]
 congr 1
 refine aA3 h ?_ λj e=>by simp only[TT.F5 e]
 rw[OT.put_tup,TT.G6];rfl
theorem eA8 (h:j<k)(c:Nat):(Q3 k o0 o1 o2).put [j] (oN [o0 (j+3),o1 (j+3),c])=Q3 k o0 o1 (TT.put o2 (j+3) c):=by
 unfold Q3;rw[OT.put_lst]
 congr 1
 refine aA3 h ?_ λi hi=>by simp only[TT.F5 (show i+3≠j+3 by lia)]
 rw[OT.put_nil,TT.G6]
theorem bZ7 (l:AC)(x:Nat):OT.lst ((l.map λ(x:Nat)=>OT.leaf (.int (x:Int)))++[.leaf (.int (x:Int))])=oN (l++[x]):=by simp[oN]
theorem dM5 (h:q<n)(x:Nat):(M1 n i0 i1 i2).put ([]++[q]++[0]) (.lst (((i0 q).map λ(x:Nat)=>OT.leaf (.int (x:Int)))++[.leaf (.int (x:Int))]))=M1 n (TT.put i0 q (i0 q++[x])) i1 i2:=by
 rw[bZ7];exact dE7 h _
theorem dE1 (h:q<n)(x:Nat):(M1 n i0 i1 i2).put ([]++[q]++[1]) (.lst (((i1 q).map λ(x:Nat)=>OT.leaf (.int (x:Int)))++[.leaf (.int (x:Int))]))=M1 n i0 (TT.put i1 q (i1 q++[x])) i2:=by
 rw[bZ7];exact dL8 h _
theorem cJ6 (h:q<n)(x:Nat):(M1 n i0 i1 i2).put ([]++[q]++[2]) (.lst (((i2 q).map λ(x:Nat)=>OT.leaf (.int (x:Int)))++[.leaf (.int (x:Int))]))=M1 n i0 i1 (TT.put i2 q (i2 q++[x])):=by
 rw[bZ7];exact dK0 h _
theorem cT3:TT.put (TT.put f q a) q b=TT.put f q b:=by
 funext x;by_cases e:x=q
 .rw[e,TT.G6,TT.G6]
 .rw[TT.F5 e,TT.F5 e,TT.F5 e]
theorem dY9:OT.lst (((List.range n).map λq=>OT.tup [oN (i0 q),oN (i1 q),oN (i2 q)])++[.tup [.lst [],.lst [],.lst []]])=M1 (n+1) (TT.put i0 n []) (TT.put i1 n []) (TT.put i2 n []):=by
 unfold M1;rw[Bh,Ad2]
 congr 2
 .refine Bk λa e=>?_
  have:=Ab5.mp e
  rw[TT.F5 (by lia),TT.F5 (by lia),TT.F5 (by lia)]
 .simp[TT.G6,oN]
theorem eB0 (a b c:Nat):OT.lst (((List.range k).map λj=>oN [o0 (j+3),o1 (j+3),o2 (j+3)])++[.lst [.leaf (.int (a:Int)),.leaf (.int (b:Int)),.leaf (.int (c:Int))]])=Q3 (k+1) (TT.put o0 (k+3) a) (TT.put o1 (k+3) b) (TT.put o2 (k+3) c):=by
 unfold Q3;rw[Bh,Ad2]
 congr 2
 .refine Bk λx e=>?_
  have:=Ab5.mp e
  rw[TT.F5 (by lia),TT.F5 (by lia),TT.F5 (by lia)]
 .simp[TT.G6,oN]
end
theorem aZ9 (h:q<n):atI ((List.range n).map f) (q:Int)=some (f q):=S1 q rfl (Z0 h)
theorem dV1 {p h:AC}{s:TT.S}(e:s.path=p++[0])(w:s.heap=h++[1]):s.row 2=0::(p.reverse++h)++[1]:=by
 rw[TT.aV9,e,w];simp
section
theorem Z4 (e:E K false ta ρ (lN l))(w:E K false tb ρ (lN l'))(r:l.length+l'.length<=100000):EF K (tOp (dQ9 K) ta tb) ρ (nI (l++l')):=by
 rw[o9];exact aN7 e w (L9 l) (L9 l') (by rw[G5,G5];unfold sizeLine;lia)
theorem cV5 (e:E K false ta ρ (lN l)):EF K (cV3 K ta) ρ (nI l.reverse):=by
 rw[eH6];exact eK0 e (L9 l)
theorem EF.toN (h:EF K t ρ (nI l))(e:l=l'):E K m t ρ (lN l'):=by subst e;exact EF.e' h
end
end LV
namespace LV
open PySem PySem.Spec PyProof.Rows L2
theorem bS4 (l:Addr)(items:AJ)(n:Nat)(dd:AK)(sl:Array (Option Value))(x:Value)(e:Value->Bool)(j:Nat)(hj:j<items.size)(P:e items[j]=true)
  (B:∀(m:Nat) (hm:m<items.size),m<j->e items[m]=false) :
  Meets (Builtin.«tuple.index» {pos:=[.ref l,x]}) λA R s=>
   s.heap.get? l=some {cls:=.type "tuple",dict:=dd,data:=.seq items n,slots:=sl}/\(∀y∈items,SeqAt.EqAt A.in1 s y x (e y)) /\
    R (.ok (.ret (.int (j:Int) s.toks))) {s with toks:=s.toks+1}:=by
 intro Q w A R s ⟨ho,hq,hr⟩;unfold Builtin.«tuple.index»;have F:selfAndSome "tuple.index" "index" 1 3 {pos:=[.ref l,x]}=pure (.ref l,[x]):=by rfl
 rw[F];refine Aa (Ae ?_);have ht:s.heap.get? l=some {cls:=.type "tuple",dict:=dd,data:=.seq items n,slots:=sl}:=ho;show wpAny _ _ (Builtin.Tuple.tupleItemsOf (.ref l) >>= _) _ _ s;refine Aa (wpAny_tupleItemsOf ht rfl ?_);refine Aa (Ae ?_);refine Aa (Ae ?_);refine Aa ?_;rw[Std.Legacy.Range.forIn_eq_forIn_range'];have hs:([0:min items.size items.size]:Std.Legacy.Range).size=items.size:=by simp[Std.Legacy.Range.size]
 rw[hs];refine wpAny_forIn_list _ (λY b N=>(∃i,i<=j/\Y=List.range' i (items.size-i) 1)/\b=(none,())/\N=s) _ ?_ ?_ _ _ ⟨⟨0,Co _,rfl⟩,rfl,rfl⟩
 .rintro i Y b N ⟨⟨M,hi,r⟩,rfl,rfl⟩;have X:M<items.size:=by lia
  obtain⟨k,hk⟩:∃k,items.size-M=k+1:=⟨items.size-M-1,by lia⟩
  rw[hk,List.range'_succ,Ax]at r;obtain⟨rfl,rfl⟩:=r;dsimp only;rw[Cg X];dsimp only;refine Aa (hq _ (Array.getElem_mem X) _ _ _ _ ?_);by_cases U:i=j
  .subst U;rw[Ac P];refine Aa ?_;unfold retInt;refine Aa (wpAny_mkInt ?_);exact Ae (Ae (Ae hr))
  .rw[B i X (by lia),Ab (by decide)]
   exact Ae ⟨⟨i+1,by lia,by rw[show items.size-(i+1)=k by lia]⟩,rfl,rfl⟩
 .rintro b N ⟨⟨i,hi,J⟩,rfl,rfl⟩
  exfalso
  have:=congrArg List.length J
  simp at this
  lia
section
theorem aC8 (K:Frag)(h:X.K=K:=by rfl):MtR X "tuple.index" (λx xs H Q=>∃(p:Addr) (l:AD) (k:Int),x=.ref p/\xs=[.int k]/\SqT K H p (l.map V.int)/\k∈l/\Q (.int (l.idxOf k)) H):=by
 subst h;intro bA s σ H x xs v us Q I rx rv ⟨p,l,k,P,e2,hq,hk,q⟩;subst P;subst e2;cases rx;obtain⟨u,rfl,t,rfl⟩:=aR3 rv;obtain⟨its,r,hT,hz⟩:=I.tuple hq;obtain⟨⟨oc,od,N,R⟩,e,c,n,d⟩:=hT;dsimp only at c d;subst c;subst d;have Y:=r.length;rw[Aa3]at Y;have w:l.idxOf k<l.length:=Cc.mpr hk;have at_:∀(j:Nat) (w:j<its.toArray.size),∃t,its.toArray[j]=Value.int (l[j]'(by simpa[Y]using w)) t:=λj w=>by
  have U:j<l.length:=by simpa[Y]using w
  obtain⟨u,h1,t,rfl⟩:=r.get (i:=j) (x:=.int l[j]) (by rw[Aa9,Aa2 U];rfl)
  have:=(Ab0.mp h1).2
  exact⟨t,by simpa using this⟩
 refine call_meets F.slot_tuple_index ⟨_,e,rfl⟩ F.entry_tuple_index (F.args_tuple_index_2 _ _) (bS4 p its.toArray n od R (.int k t) (λy=>match y with | .int i _=>i==k | _=>false) (l.idxOf k) (by simpa[<- Y]using w) ?_ ?_) ⟨e,λy hy=>?_,?_⟩
 .obtain⟨B,e'⟩:=at_ (l.idxOf k) (by simpa[<- Y]using w)
  rw[e'];simp
 .intro m M J;obtain⟨B,e'⟩:=at_ m M;rw[e']
  have:l[m]'(by simpa[Y]using M)≠k:=λz=>by
   have h1:m<l.length:=by simpa[Y]using M
   exact cN4 h1 J z
  simpa using this
 .obtain⟨j,w,rfl⟩:=Array.mem_iff_getElem.mp hy;obtain⟨B,e'⟩:=at_ j w;rw[e'];exact SeqAt.EqAt.int_int _ _ _ _
 .exact⟨.int _,H,I.tok _,⟨_,rfl⟩,q⟩
theorem aQ0 {P:Program}{w:World}{A:Around}{E:Dz}{s:Shared}{t sl:Addr}{items:AJ}{vl vu:Value}{lo hi:Option Int}{Q:Dz}(e:IsTup s.heap t items)(U:s.heap.IsSliceOf sl vl vu .none)(pl:IsPart vl lo)(N:IsPart vu hi)
  (J:HT.sIx items.size 0 lo=0/\HT.sIx items.size items.size hi=items.size) (h:Q (.ref t) s):wpAny (model P w) A (getItem (.ref t) (.ref sl)) Q E s:=by
 obtain⟨os,X,Y,M⟩:=id U;have j:s.TypeIs (.ref sl) "slice" := ⟨os,X,Y⟩;unfold getItem
 try with_reducible refine Ce ?_
 first | refine Aa (Ae ?_) | skip
 refine Aa (wpAny_sequenceKey e.typeIs (by decide) ?_)
 refine Aa (Ct (name:=Str.ofString "__getitem__") e.typeIs Bi
  (Da Bi e.typeIs entry_tuple_getitem ?_ (args_tuple_getitem _ _)))
 show wpAny _ _ (Builtin.Tuple.tupleItemsOf (.ref t) >>= _) _ _ s
 refine Aa (tupleItemsOf_ e ?_);refine Aa (wpAny_typeOf j ?_);rw[Ac (by decide)]
 refine Aa (HT.aC9 U pl N ?_);have r:((((HT.sIx items.size 0 lo:Nat):Int)==0&&(1:Int)==1&&(HT.sIx items.size items.size hi-HT.sIx items.size 0 lo)==items.size)=true):=by
  rw[J.1,J.2];simp
 show wpAny _ _ (if(((HT.sIx items.size 0 lo:Nat):Int)==0&&(1:Int)==1&&(HT.sIx items.size items.size hi-HT.sIx items.size 0 lo)==items.size)=true then _ else _) _ _ s
 rw[Ac r];refine Aa ?_;unfold Builtin.Tuple.tupleIsExact;refine Aa (wpAny_typeOf e.typeIs (Ae ?_));rw[Ac (by decide)]
 exact Aa (wpAny_rule (Ae ⟨_,rfl,Ae h⟩))
def eS2 (K:Frag):V->Option Int->Option Int->Hp->VK->Prop:=λx lo hi H Q=>∃a xs,x=.ref a/\SqT K H a xs /\
 (HT.sIx xs.length 0 lo=0/\HT.sIx xs.length xs.length hi=xs.length->Q (.ref a) H) /\
 (¬(HT.sIx xs.length 0 lo=0/\HT.sIx xs.length xs.length hi=xs.length)->∀p,H p=none->Q (.ref p) (upd H p (.tup (bY1 xs lo hi))))
theorem cA0 (K:Frag)(h:X.K=K:=by rfl):SlR X (eS2 K):=by
 subst h;intro F s σ H x v vl vu lo hi sl Q I R Y M N h;obtain⟨a,xs,e,J,B,P⟩:=h;by_cases j:HT.sIx xs.length 0 lo=0/\HT.sIx xs.length xs.length hi=xs.length
 .subst e;cases R;obtain⟨its,r,U,hz⟩:=I.tuple J;have w:its.toArray.size=xs.length:=by rw[Ab2];exact r.length.symm
  refine⟨"tuple",_,Bi.lookup,U.typeIs,?_⟩;exact aQ0 U Y M N (by rw[w];exact j) ⟨.ref a,H,I,rfl,B j⟩
 .exact eN4 F s σ H x v vl vu lo hi sl Q I R Y M N ⟨a,xs,e,J,j,P j⟩
theorem aZ6 (K:Frag)(h:X.K=K:=by rfl):OpR X (binaryOp .Add) (dS7 K):=h▸dY1
end
section
variable {K:Frag}{ρ:List Sl}{m:Bool}{t ta tb:TE}{d:PyData}{ds es:AF}
theorem bX3 (h:N8 ds=true):imm (.tuple ds)=true:=by simp[imm,h]
theorem aL7 {tl th:TO}{lo hi:Option Int}(M:E K false ta ρ (.tuple ds))(R:O K tl ρ lo)(N:O K th ρ hi)(s:N8 ds=true):E K m (tSl (eS2 K) ta tl th) ρ (.tuple (aD0 ds lo hi)):=
 E.bor (E.imm (m:=false) (λS B σ H o I Q q=>M S B σ H o I _ λx U j F=>R S B σ U o (I.grow j) _ λJ X=>N S B σ J o ((I.grow j).grow X) _ λH3 P=>by
  cases F with
  | @tup a xs _ sa ra=>
  have w:=L2.Same.tr X P
  have r:=ra.length
  refine⟨a,xs,rfl,G8 w sa,λY=>q _ _ (L2.Same.tr j w) ?_,λ_ p hp=>q _ _ (L2.Same.tr j (L2.Same.tr w (G0 hp))) (.tup (SqT.of C4) (((ra.mono w).cut lo hi).mono (G0 hp)))⟩
  have e:aD0 ds lo hi=ds:=by
   unfold aD0;rw[<- r,Y.1,Y.2,r]
   simp
  rw[e];exact .tup (G8 w sa) (ra.mono w)) (bX3 (V6 lo hi s)))
theorem cA8 (Y:E K false ta ρ (.tuple ds))(X:E K false tb ρ (.tuple es))(hi:N8 ds=true)(r:N8 es=true)(J:ds≠[])(U:ds.length+es.length<=sizeLine:=by first | decide | (unfold sizeLine;simp;done)):E K m (tOp (dS7 K) ta tb) ρ (.tuple (ds++es)):=
 E.bor (E.imm (m:=false) (λS B σ H o I Q q=>Y S B σ H o I _ λx s j M=>X S B σ s o (I.grow j) _ λy R w N=>by
  cases M with
  | @tup a xs _ sa ra=>
  cases N with
  | @tup b ys _ sb rb=>
  have e:=ra.mono w
  refine⟨a,b,xs,ys,rfl,rfl,G8 w sa,sb,λz=>J (by cases z;cases ra;rfl),by rw[ra.length,rb.length];exact U,λz=>q _ _ (L2.Same.tr j w) ?_,λ_ p hp=>q _ _ (L2.Same.tr j (L2.Same.tr w (G0 hp))) (.tup (SqT.of C4) ((e.append rb).mono (G0 hp)))⟩
  cases z
  cases rb
  rw[Ba];exact .tup (G8 w sa) e) (bX3 (by rw[aM3,hi,r];rfl)))
theorem cT8 (r:Rep K H p (tI l)):∃a,p=.ref a/\SqT K H a (l.map V.int):=by
 cases r with
 | @tup a xs _ s r=>exact⟨a,rfl,by rw[<- r.ints];exact s⟩
theorem aK7 (X:E K false ta ρ (tI l))(U:E K false tb ρ (.int k))(J:k∈l) :
  E K m (tBM K "tuple" (λx xs H Q=>∃(p:Addr) (l:AD) (k:Int),x=.ref p/\xs=[.int k]/\SqT K H p (l.map V.int)/\k∈l/\Q (.int (l.idxOf k)) H) ta (E7 tb R6)) ρ (.int (l.idxOf k)):=E.bor (E.imm (m:=false) λS B σ H o I Q q=>X S B σ H o I _ λv j e r=>by
 obtain⟨p,rfl,s⟩:=cT8 r;refine⟨.inr (.inl ⟨rfl,_,s⟩),?_⟩;refine U S B σ j o (I.grow e) _ λu Y w M=>?_
 cases M
 exact⟨p,l,k,rfl,rfl,G8 w s,J,q _ Y (L2.Same.tr e w) (.int _)⟩)
end
end LV
namespace L2
open PySem PySem.Spec PyProof.Rows
section
theorem Inv.turnedL {t':Nat}{fp:AL}(I:Inv X bA σ H s)(k:∀b o,b∉fp->s.heap.get? b=some o->h'.get? b=some o)(Y:∀b∈fp,bQ5 X bA H b):Inv X bA σ H {s with heap:=h',toks:=t'}:=by
 have j:∀b u,H b=some u->b∉fp:=λb u e z=>by rw[(Y b z).1]at e;cases e
 refine I.step (g':=s.gens) (d':=s.drawn) (ch:=fp) (λb R=>?_) (λb o _ _ w e _=>k b o w e) (λb o _ _ w e _=>⟨o.slots,k b o w e⟩) (λ_ _ _ _ n=>n)
  (λb o w e=>⟨o,k b o w e⟩) (λ_ _ e=>e) (λ_ _ _ e=>e) (λb ps e=>⟨#[],by rw[e];simp⟩) (λm Q=>?_) (λb u e=>?_) I.bare
 .obtain⟨_,f1,_,f3,M,N⟩:=Y b R;exact⟨f3,f1,M,N⟩
 .obtain⟨o,J,U,ho,r⟩:=Q;exact⟨o,J,U,k _ o (λz=>(Y _ z).2.1 rfl) ho,r⟩
 .refine(I.hok b u e).stay (λc v w q=>k c v ?_ q) (λ_ q=>q) λ_ _ q=>q
  rcases w with z | z
  .rw[z];exact j b u e
  .exact j c _ z
theorem Inv.turnedLaid {t':Nat}{fp:AL}{T:Addr}{ob:HO}(I:Inv X bA σ H s)(k:∀b o,b∉fp->s.heap.get? b=some o->h'.get? b=some o)(M:∀b∈fp,bQ5 X bA H b)(R:s.heap.objs.size<=T)
  (N:ObjOk X.prog X.w (upd H T ob) h' T ob):Inv X bA σ (upd H T ob) {s with heap:=h',toks:=t'}:=by
 have U:∀b u,H b=some u->b∉fp:=λb u e z=>by rw[(M b z).1]at e;cases e
 have Q:H T=none:=I.hok.fresh R
 have nT:∀b o,s.heap.get? b=some o->b≠T:=λb o e z=>by have h1:b<s.heap.objs.size:=Ab3 e;rw[z]at h1;exact absurd (Ab8 h1 R) (Ad9 _)
 have Y:∀b u,H b=some u->b≠T:=λb u e z=>by rw[z,Q]at e;cases e
 refine I.step (g':=s.gens) (d':=s.drawn) (ch:=fp) (λb J=>?_) (λb o _ _ j e _=>k b o j e) (λb o _ _ j e _=>⟨o.slots,k b o j e⟩) (λb o _ e n=>by rw[B6 (nT b o e)];exact n)
  (λb o j e=>⟨o,k b o j e⟩) (λb _ e=>by rw[B6 (Y b _ e)];exact e) (λb _ _ e=>by rw[B6 (Y b _ e)];exact e) (λb ps e=>⟨#[],by rw[B6 (Y b _ e),e];simp⟩) (λm hm=>?_) (λb u e=>?_) I.bare
 .obtain⟨_,f1,_,f3,P,f5⟩:=M b J;exact⟨f3,f1,P,f5⟩
 .obtain⟨o,B,F,ho,r⟩:=hm;exact⟨o,B,F,k _ o (λz=>(M _ z).2.1 rfl) ho,r⟩
 .by_cases J:b=T
  .subst J;rw[C4]at e;cases e;exact N
  rw[B6 J]at e;refine(I.hok b u e).stay (λc v j q=>k c v ?_ q) (λc q=>by rw[B6 (Y c _ q)];exact q) λc _ q=>by rw[B6 (Y c _ q)];exact q
  rcases j with z | z
  .rw[z];exact U b u e
  .exact U c _ z
end
end L2
namespace LV
open PySem PySem.Spec PyProof.Rows L2
section
variable {K:Frag}{ρ:List Sl}{m:Bool}{t ta tb:TE}{d d':PyData}{ds es:AF}
def enD (ds:AF):AF:=ds.mapIdx λi d=>.tuple [.int (i:Int),d]
theorem bK5:(enD ds).length=ds.length:=by simp[enD]
theorem bO1 {i:Nat}{d:PyData}(h:(enD ds)[i]? = some d):∃y,ds[i]? = some y/\d=.tuple [.int (i:Int),y]:=by
 unfold enD at h;rw[List.getElem?_mapIdx]at h;obtain⟨y,h1,e⟩:=Bx.mp h;exact⟨y,h1,e.symm⟩
theorem eH2 {t:TA}{i j:Int}(e:A K false t ρ [.int i,.int j]):E K m (tCB (λxs H Q=>∃i j,xs=[.int i,.int j]/\Q (.int (if j>i then j else i)) H) t) ρ (.int (max i j)):=dU2 e λH vs Q r q=>by
 cases r with
 | cons a b=>cases b with
  | cons b c=>
   cases a;cases b;cases c
   refine⟨i,j,rfl,q _ λ_=>?_⟩
   have:(if j>i then j else i)=max i j:=by split <;> lia
   rw[this];exact .int _
end
end LV
namespace L2
open PySem PySem.Spec PyProof.Rows
section
theorem bU2 (e:s.heap.get? a=some o)(d:o.data=.seq items n)(h:Q (some items) s):wpAny M A (seqItems? (.ref a)) Q E s:=by
 unfold seqItems?;refine Aa (wpAny_load e ?_);rw[d];exact Ae h
theorem aX4 (st:s.heap.IsTupleIter it t i)(U:s.heap.IsTuple t items)(J:items[i]? = some x)
  (h:∀h':Heap,h'.IsTupleIter it t (i+1)->Heap.SameBut it s.heap h'->Q x {s with heap:=h'}):wpAny (model prog w) A (Builtin.SmallTypes.nextOf (.ref it)) Q E s:=by
 unfold Builtin.SmallTypes.nextOf;refine Aa (Ct st.typeIs slot_tupleiter_next (Da slot_tupleiter_next st.typeIs entry_tupleiter_next ?_ (args_tupleiter_next _)));obtain⟨o,e,c,d⟩:=id st;obtain⟨B,X,N,n,j⟩:=U;have Y:slotArgs "__next__" 0 {pos:=[.ref it]}=pure (.ref it,[]):=rfl;refine Aa (m:=slotArgs "__next__" 0 {pos:=[.ref it]}) ?_;rw[Y];refine Ae ?_;refine Aa (m:=field (.ref it) 0) (wpAny_field e d rfl ?_);refine Aa (m:=field (.ref it) 1) (wpAny_field e d rfl ?_);refine Aa (m:=seqItems? (.ref t)) (bU2 X j ?_);show wpAny _ _ (match items[(i:Int).toNat]? with | some x=>_ | none=>_) _ _ _
 rw[Ac8,J];refine Aa (m:=setField (.ref it) 1 (rawInt ((i:Int)+1))) (wpAny_setField e d (by simp) ?_)
 obtain⟨R,F,r,M⟩:=o;dsimp only at c d;subst c;subst d;exact Ae ⟨x,rfl,Ae (h _ ⟨_,Ci _ e rfl,rfl,rfl⟩ (Heap.SameBut.update _ _ _))⟩
theorem eV0 (j:A.handled=none)(h:∀(h':Heap) (e:Addr),(∀b o,s.heap.get? b=some o->h'.get? b=some o)->(∃o,h'.get? e=some o/\o.cls=.type "StopIteration")->E (.ref e) {s with heap:=h'}) :
  wpAny M A (Builtin.SmallTypes.stopIteration (α := α)) Q E s:=by
 unfold Builtin.SmallTypes.stopIteration newExc;refine Aa ?_;refine Aa (wpAny_newTuple ?_ (by show 0<=sizeLine;exact Co _))
 have r:firstArgMember (.type "StopIteration") []=pure .none:=by
  unfold firstArgMember;show(pure _ >>= λw=>pure (if w=true then _ else _))=_
  cases (Manifest.find? "StopIteration").elim false λt=>t.mro.contains "StopIteration" || t.mro.contains "SystemExit" <;> rfl
 rw[r];refine Aa (Ae ?_);refine Cj ?_ (by show(6:Nat)<=sizeLine+2;decide)
 refine wpAny_raiseNew_none j (h _ _ (λb o q=>Aa6 _ (Aa6 _ q)) ⟨_,Ac3 _ rfl,rfl⟩)
theorem aC2 (J:A.handled=none)(st:s.heap.IsTupleIter it t i)(M:s.heap.IsTuple t items)(R:items[i]? = none)
  (h:∀(h':Heap) (e:Addr),Heap.ExtBut it s.heap h'->(∃o,h'.get? e=some o/\o.cls=.type "StopIteration")->E (.ref e) {s with heap:=h'}):wpAny (model prog w) A (Builtin.SmallTypes.nextOf (.ref it)) Q E s:=by
 unfold Builtin.SmallTypes.nextOf;refine Aa (Ct st.typeIs slot_tupleiter_next (Da slot_tupleiter_next st.typeIs entry_tupleiter_next ?_ (args_tupleiter_next _)));obtain⟨o,e,c,d⟩:=id st;obtain⟨P,Y,B,n,r⟩:=M;have j:slotArgs "__next__" 0 {pos:=[.ref it]}=pure (.ref it,[]):=rfl;refine Aa (m:=slotArgs "__next__" 0 {pos:=[.ref it]}) ?_;rw[j];refine Ae ?_;refine Aa (m:=field (.ref it) 0) (wpAny_field e d rfl ?_);refine Aa (m:=field (.ref it) 1) (wpAny_field e d rfl ?_);refine Aa (m:=seqItems? (.ref t)) (bU2 Y r ?_);show wpAny _ _ (match items[(i:Int).toNat]? with | some x=>_ | none=>_) _ _ _
 rw[Ac8,R];refine Aa (wpAny_rule ?_);refine Aa (m:=setField (.ref it) 0 .none) (wpAny_setField e d (by simp) ?_)
 exact eV0 J λh' X F N=>h h' X (λb o U q=>F b o (by rw[Heap.get?_update_ne _ _ _ _ U];exact q)) N
theorem cL7 (N:A.handled=none)(it t:Addr)(Y:t≠it)(items:AJ):Draws prog w A it [it,t] items.size (λi v=>items[i]? = some v) λi h=>h.IsTupleIter it t i/\h.IsTuple t items where
 live:=λi h j=>⟨_,j.1.choose_spec.1⟩
 frame:=λi h U j k=>⟨j.1.at λo e=>k it (by simp) o e,by
  obtain⟨o,e,r⟩:=j.2;exact⟨o,k t (by simp) o e,r⟩⟩
 item:=λi s Q E hi j h=>by
  have J:items[i]? = some items[i]:=Cg hi
  refine aX4 j.1 j.2 J λU X M=>h _ U s.toks J ⟨X,?_⟩ M
  obtain⟨o,e,r⟩:=j.2;exact⟨o,by rw[M.2 t Y];exact e,r⟩
 done:=λs Q E j h=>aC2 N j.1 j.2 (by simp) h
theorem bE9 (t:Addr)(items:AJ):Meets (Builtin.«enumerate.__new__» {pos:=[.type "enumerate",.ref t]}) λx R s=>
  s.heap.IsTuple t items/\R (.ok (.ret (.ref (s.heap.push {cls:=.type "tuple_iterator",data:=.fields #[.ref t,.int 0 0]}).objs.size)))
   {s with heap:=(s.heap.push {cls:=.type "tuple_iterator",data:=.fields #[.ref t,.int 0 0]}).push {cls:=.type "enumerate",data:=.fields #[.none,.bool false,.ref s.heap.objs.size,rawInt 0,.none,.none]}}:=by
 intro j w A R s ⟨ht,P⟩;unfold Builtin.«enumerate.__new__»;have Q:Builtin.SmallTypes.newClass "enumerate" {pos:=[.type "enumerate",.ref t]}=pure (.type "enumerate",[.ref t]):=by
  unfold Builtin.SmallTypes.newClass;show(pure true >>= _)=_;rw[pure_bind];show(isSubtype (.type "enumerate") (.type "enumerate") >>= _)=_;rw[F.called_enumerate.sub];rfl
 rw[Q];refine Aa (Ae ?_);dsimp only;rw[Ac (by decide)]
 refine Aa ?_;unfold Builtin.SmallTypes.calledThroughType;refine Aa (wpAny_stack λst _ _ _=>Ae ?_)
 have Y:wpAny (model j w) A.in1 (do
   let it <- pyIter (.ref t)
   let r <- Builtin.SmallTypes.newRecord (.type "enumerate") (Builtin.SmallTypes.ownedTupleFields++[it,rawInt 0,.none,.none])
   ret r) (λY X=>match Y with | .done f=>R (.ok f) X | .again J=>J.quiet=true/\codeAny (model j w) A J R X) (λe X=>R (.error e) X) s:=by
  refine Aa (wpAny_pyIter_tuple ht ?_);refine Aa (m:=Builtin.SmallTypes.newRecord _ _) ?_;unfold Builtin.SmallTypes.newRecord;exact Cj (Ae P) (by show(6:Nat)<=sizeLine+2;decide)
 have M:∀(U:Bool) (C N:Sem PySem.Fin),wpAny (model j w) A.in1 C (λY X=>match Y with | .done f=>R (.ok f) X | .again J=>J.quiet=true/\codeAny (model j w) A J R X) (λe X=>R (.error e) X) s->wpAny (model j w) A.in1 N (λY X=>match Y with | .done f=>R (.ok f) X | .again J=>J.quiet=true/\codeAny (model j w) A J R X) (λe X=>R (.error e) X) s->wpAny (model j w) A.in1 (if U=true then C else N) (λY X=>match Y with | .done f=>R (.ok f) X | .again J=>J.quiet=true/\codeAny (model j w) A J R X) (λe X=>R (.error e) X) s:=λU C N h1 B=>by
  cases U
  .rw[Ab (by decide)];exact B
  .rw[Ac rfl];exact h1
 refine M _ _ _ ?_ ?_
 .exact Aa (m:=pure (Value.ref t,none)) (Ae Y)
 .exact Aa (m:=pure (Value.ref t,none)) (Ae Y)
theorem aM7 (j:s.heap.IsTuple t items)
  (h:∀h':Heap,IsEnum h' (s.heap.objs.size+1) s.heap.objs.size 0 .none->h'.IsTupleIter s.heap.objs.size t 0->(∀b o,s.heap.get? b=some o->h'.get? b=some o)->Q (.ref (s.heap.objs.size+1)) {s with heap:=h'}) :
  wpAny (model prog w) A (call (.type "enumerate") [.ref t]) Q E s:=by
 have e:(s.heap.push {cls:=.type "tuple_iterator",data:=.fields #[.ref t,.int 0 0]}).objs.size=s.heap.objs.size+1:=by simp[Heap.push]
 refine callType_new F.called_enumerate (by decide) (F.typeCall_enumerate_1 _) (F.newCall_enumerate_1 _) (λY=>F.args_object_init_2 _ _) F.entry_enumerate_new (bE9 t items) ⟨j,?_⟩
 show _/\_
 rw[e];have r:((s.heap.push {cls:=.type "tuple_iterator",data:=.fields #[.ref t,.int 0 0]}).push {cls:=.type "enumerate",data:=.fields #[.none,.bool false,.ref s.heap.objs.size,rawInt 0,.none,.none]}).get? (s.heap.objs.size+1)=some {cls:=.type "enumerate",data:=.fields #[.none,.bool false,.ref s.heap.objs.size,rawInt 0,.none,.none]}:=by
  have:=Ac3 (h:=s.heap.push {cls:=.type "tuple_iterator",data:=.fields #[.ref t,.int 0 0]}) (o:={cls:=.type "enumerate",data:=.fields #[.none,.bool false,.ref s.heap.objs.size,rawInt 0,.none,.none]}) rfl
  rw[e]at this;exact this
 exact⟨⟨_,r,rfl⟩,h _ r ⟨_,Aa6 _ (Ac3 _ rfl),rfl,rfl⟩ λb o q=>Aa6 _ (Aa6 _ q)⟩
end
def Iet (K:Frag)(a:Addr):It:=
 ⟨λi H=>∃xs x,SqT K H a xs/\xs[i]? = some x,λi H x H'=>∃T y,x=.ref T/\H T=none/\H'=upd H T (.tup [.int (i:Int),y])/\∀xs,SqT K H a xs->xs[i]? = some y,λi H=>∃xs,SqT K H a xs/\xs.length<=i⟩
theorem tuple_inj (I:Inv X bA σ H s)(h:SqT X.K H a xs)(h':SqT X.K H a ys):xs=ys:=by
 obtain⟨its,r,⟨o,e,_,n,d⟩,_⟩:=I.tuple h;obtain⟨w,U,⟨M,e',_,J,j⟩,_⟩:=I.tuple h';rw[e]at e';cases e';rw[d]at j
 injection j with Y _
 have:its=w:=by simpa using congrArg Array.toList Y
 subst this;exact r.inj U
theorem cR0 {P:Program}{w:World}{K:Frag}{elts:AM}{k:_}{pos:Pos}(a e it:Addr)(M:e≠it):cQ3 P w K (.Tuple elts k pos) (Iet K a) [e,it] e (λi h=>(∃old,IsEnum h e it (i:Int) old)/\h.IsTupleIter it a i) where
 mem:=by simp
 obj:=λi h Y b hb=>by
  obtain⟨⟨old,J⟩,o,e1,c,d⟩:=Y;rcases Aa1.mp hb with rfl | hb
  .exact⟨_,J,λv z=>by cases z⟩
  .have R:b=it:=by simpa using hb
   subst R;exact⟨o,e1,λv z=>by rw[d]at z;cases z⟩
 keep:=λi h U Y k=>⟨⟨Y.1.choose,k e (by simp) _ Y.1.choose_spec⟩,Y.2.at λo q=>k it (by simp) o q⟩
 item:=by
  intro X hP hw hK hc i bA s σ H E I F Y hg;subst hP hw hK;obtain⟨⟨old,J⟩,hi⟩:=Y;obtain⟨xs,x,B,hx⟩:=hg;obtain⟨its,rv,p,hz⟩:=I.tuple B;obtain⟨u,hu,ru⟩:=rv.get hx;have ea:a≠e:=λz=>by
   obtain⟨o,q,c,_⟩:=p;rw[z]at q;rw[show s.heap.get? e=_ from J]at q
   cases q
   injection c with c
   exact absurd c (by decide)
  have eit:a≠it:=λz=>by
   obtain⟨o,q,c,_⟩:=p;obtain⟨o',q',c',_⟩:=hi;rw[z,q']at q;cases q;rw[c']at c
   injection c with c
   exact absurd c (by decide)
  have hlt:i<its.toArray.size:=by have:=(Ab0.mp hu).1;simpa using this
  refine wpAny_pyNext_enum_itemD (cL7 (A:=X.A.in1) (I.ok.hd hc) it a eit its.toArray) J ⟨hi,p⟩ hlt M (by simp[M,Ne.symm ea]) λy U tk hy ho hst hT hs kp=>?_
  have ey:y=u:=by
   have h1:its.toArray[i]? = some u:=by simpa using hu
   rw[h1]at hy;exact(Ab4 hy).symm
  subst ey;obtain⟨hi',p'⟩:=hst;refine⟨_,rfl,?_⟩;have Te:s.heap.objs.size≠e:=λz=>by have h1:=Ab3 J;rw[z]at h1;exact Ad9 _ h1
  have Ti:s.heap.objs.size≠it:=λz=>by
   obtain⟨o',q',_⟩:=hi;have h1:=Ab3 q';rw[z]at h1;exact Ad9 _ h1
  unfold letOwnedTupleGo;refine Aa (wpAny_load ho ?_);dsimp only;rw[Ac (by simp[rawInt])]
  refine Aa (wpAny_rule ?_);unfold updateField;refine Aa (wpAny_load ho ?_);dsimp only;rw[Ac (by simp)]
  refine wpAny_update ho ?_;have he2:(U.update e (Obj.mapFields λx=>x.setIfInBounds 0 .none)).get? e=some {cls:=.type "enumerate",data:=.fields #[.none,.bool false,.ref it,rawInt ((i:Int)+1),.none,y]}:=Ci (h:=U) (o:={cls:=.type "enumerate",data:=.fields #[rawInt (s.heap.objs.size:Int),.bool false,.ref it,rawInt ((i:Int)+1),.none,y]}) (λo=>Obj.mapFields (λx=>x.setIfInBounds 0 .none) o) ho rfl
  have N:∀b o,b≠e->U.get? b=some o->(U.update e (Obj.mapFields λx=>x.setIfInBounds 0 .none)).get? b=some o:=λb o hb q=>by rw[Heap.get?_update_ne _ _ _ _ hb];exact q
  have hT2:=N s.heap.objs.size _ Te hT
  refine⟨.ref s.heap.objs.size,upd H s.heap.objs.size (.tup [.int (i:Int),x]),?_,rfl,⟨_,x,rfl,I.hok.fresh (Aa7 _),rfl,λys hy=>by rw[tuple_inj I hy B];exact hx⟩,⟨⟨y,by rw[show((i+1:Nat):Int)=(i:Int)+1 by lia];exact he2⟩,hi'.at λo q=>N it o (Ne.symm M) q⟩,λb hb=>?_⟩
  .refine I.turnedLaid (t':=tk+1) (fp:=[e,it]) (λb o hb q=>N b o (λz=>hb (by simp[z])) (kp b o (λz=>hb (by simp[z])) (λz=>hb (by simp[z])) q)) F (Aa7 _) ?_
   exact⟨by show 2<=sizeLine;decide,[.int (i:Int) tk,y],.cons ⟨_,rfl⟩ (.cons ru .nil),⟨_,hT2,rfl,⟨_,rfl⟩,rfl⟩⟩
  .rw[B6]
   .exact(F b hb).1
   .rcases Aa1.mp hb with rfl | hb
    .exact Ne.symm Te
    .have R:b=it:=by simpa using hb
     subst R;exact Ne.symm Ti
 done:=by
  intro X hP hw hK hc i bA s σ H E I F Y hg;subst hP hw hK;obtain⟨⟨old,J⟩,hi⟩:=Y;obtain⟨xs,B,hx⟩:=hg;obtain⟨its,rv,p,hz⟩:=I.tuple B;have hl:=rv.length;have hD:Draws X.prog X.w X.A.in1 it [it,a] i (λ_ _=>False) (λj h=>j=i/\h.IsTupleIter it a i/\h.IsTuple a its.toArray):=⟨λj h Y=>⟨_,Y.2.1.choose_spec.1⟩,λj h U Y k=>⟨Y.1,Y.2.1.at λo e=>k it (by simp) o e,by
   obtain⟨o,e,r⟩:=Y.2.2;exact⟨o,k a (by simp) o e,r⟩⟩,λj s Q E hj Y _=>absurd Y.1 (Ab9 hj),λs Q E Y h=>aC2 (I.ok.hd hc) Y.2.1 Y.2.2 (by simp;lia) h⟩
  exact wpAny_pyNext_enum_endD hD J ⟨rfl,hi,p⟩ λU R=>⟨rfl,I.turnedL (t':=s.toks) (λb o hb q=>R b o (λz=>hb (by simp[z])) q) F⟩
 self:=λ_ _ _ _ _ Y h=>wpAny_pyIter_enum Y.1.choose_spec h
section
def dI2 (K:Frag)(ta:TA):TI:=λσ H R=>ta σ H λvs H1=>∃a xs,vs=[.ref a]/\SqT K H1 a xs/\R (Iet K a) H1
theorem cJ3 {l:Expr}{ta:TA}{p pos:Pos}(K:Frag)(N:Gl X "enumerate")(Q:X.mg "enumerate" = none)(M:PA X [l] ta)(J:X.K=K:=by rfl)(B:starEach [l] X.env=[(false,eval l X.env)]:=by rfl):PI X (.Tuple elts k ps) (.Call (.Name "enumerate" p) [l] [] pos) (dI2 K ta):=by
 subst J;refine⟨?_⟩;intro U s σ H R I h;refine Call_ (aO1 I N Q boot_enumerate (Bs (thn (M pos U s σ H _ I h) λus r ⟨vs,Y,w,r1,q1⟩=>?_) B rfl))
 obtain⟨a,xs,e,F,q⟩:=q1;subst e;obtain⟨u,rfl,rx⟩:=aR3 r1;cases rx;obtain⟨its,rv,pl,hz⟩:=w.tuple F;refine aM7 pl λh' j hi P=>?_
 refine wpAny_pyIter_enum j ?_;refine⟨r.heap.objs.size+1,[r.heap.objs.size+1,r.heap.objs.size],_,_,Y,rfl,w.kept (t':=r.toks) P,cR0 a _ _ (by simp),⟨⟨_,j⟩,hi⟩,λb hb=>?_,q⟩
 rcases Aa1.mp hb with rfl | hb
 .exact w.fpOk (Nat.le_succ _) (w.hok.fresh (Nat.le_succ _))
 .have e:b=r.heap.objs.size:=by simpa using hb
  subst e;exact w.fpOk (Aa7 _) (w.hok.fresh (Aa7 _))
end
end L2
namespace LV
open PySem PySem.Spec PyProof.Rows L2
section
variable {K:Frag}{ρ:List Sl}{m:Bool}{t ta tb:TE}{d d':PyData}{ds es:AF}
theorem dK8 (s:SqT K Z a xs)(r:Reps K Z xs ds):Wk K Z (Iet K a) (enD ds) where
 stop:=λi H h l=>⟨xs,G8 h s,by rw[r.length,<- bK5];exact l⟩
 go:=λi H d h e=>by
  obtain⟨y,e,_⟩:=bO1 e;obtain⟨v,h1,_⟩:=r.get' e;exact⟨xs,v,G8 h s,h1⟩
 yld:=λi H d x U h e y=>by
  obtain⟨z,e',rfl⟩:=bO1 e;obtain⟨T,v,rfl,j,rfl,y⟩:=y
  have:=y xs (G8 h s)
  obtain⟨d',h1,Y⟩:=r.get this;rw[e']at h1;cases h1;have g:=G0 (o:=.tup [.int (i:Int),v]) j;refine⟨g,λS w=>?_⟩
  have X:Same Z (hid S (upd H T (.tup [.int (i:Int),v]))):=λb o q=>hid_some.mpr ⟨(λz=>by rw[(w b z).1]at q;cases q),g b o (h b o q)⟩
  exact .tup (SqT.of (hid_some.mpr ⟨λz=>(w T z).2 j,C4⟩)) (.cons (.int _) (.cons (Y.mono X) .nil))
theorem cW6 {t:TA}(h:A K m t ρ [.tuple ds]):I K m (dI2 K t) ρ (enD ds):=λS B σ H o J R q=>h S B σ H o J _ λvs e w r=>by
 cases r with
 | cons a b=>
  cases b
  cases a with
  | tup s r=>exact⟨_,_,rfl,G8 aJ1 s,q _ e w (dK8 s r)⟩
end
section
variable {K:Frag}{ρ ρ':List Sl}{m:Bool}{t ta tb:TE}{d d':PyData}{ds es:AF}
def spX (K:Frag)(pre:AF->(PyData->Prop)->Prop):Sp:=λvs H Q _=>∃(ds:AF) (S:Addr->Prop) (post:PyData->Prop),(∀b,S b->∃u:HM,H b=some u.ho)/\Reps K (hid S H) vs ds/\pre ds post /\
 ∀d v H',post d->Same H H'->Rep K (hid S H') v d->Q v H'
theorem eO3 {t:TS}{N:AH}{vs:List V}{S:Addr->Prop}{H:Hp}{Q:VK}{post:PyData->Prop}(Y:∀b,S b->∃u:HM,H b=some u.ho)(r:Reps K (hid S H) vs ds)(w:W K t (sl0 N.length ds) {nx:=λ_=>post .none,rt:=post})
  (k:∀d v H',post d->Same H H'->Rep K (hid S H') v d->Q v H'):t {nx:=λ_ H'=>Q .non H',rt:=Q} (L2.Y6 N vs) H:=
 w S H _ _ H _ (env0 Y r) ⟨λρ' J H' U j z=>k _ _ H' z j.base .non,λv e H' s X z=>k e v H' z s X,λ_ _ _ _ _ _ _ _ z=>z.elim,λ_ _ _ _ _ z=>z.elim,λ_ _ _ _ _ z=>z.elim⟩
theorem eJ0 {i:Nat}{R:AE}{pre:AF->(PyData->Prop)->Prop}{post:PyData->Prop}{t:TA}{X:XK}(Y:A K true t ρ ds)(hp:pre ds post)(U:∀d,post d->R.nx (ρ.set i (.val d))):W K (u8 (V3 (spX K pre) [] X t) (M8 i)) ρ R:=λS B D σ H o I s=>
 Y S B σ H o I _ λvs N w rs=>⟨ds,F1 ρ o S,post,(I.grow w).lists,by rw[Ba];exact rs,hp,λd v e z J r=>(F8 (K:=K) (m:=true) (i:=i) (ρ := ρ) (d:=d)).2 S B σ e o (I.grow (L2.Same.tr w J)) v r _ λM j=>s.nx _ M e o j (U d z)⟩
theorem eX8 (h:∀ds d,pre ds d->ds.length=n):∀vs H Q E,spX K pre vs H Q E->vs.length=n:=λvs H Q E ⟨ds,S,d,_,r,p,_⟩=>by
 have e:=r.length
 rw[e];exact h ds d p
theorem eU2 {K:Frag}{ρ:List Sl}(w:List Sl->Prop){c:TT}{t u:TS}{b:Bool}{R:AE}(h:LV.T K c ρ b)(h1:b=true->W K t ρ {R with nx:=w})(j:b=false->W K u ρ {R with nx:=w})(r:∀ρ',w ρ'->R.nx ρ'):W K (bN3 c t u) ρ R:=
 K9 h (λe=>(h1 e).weak r (λ_ z=>z) (λ_ z=>z) (λ_ z=>z) (λ_ z=>z)) (λe=>(j e).weak r (λ_ z=>z) (λ_ z=>z) (λ_ z=>z) (λ_ z=>z))
end
end LV
namespace L2
open PySem PySem.Spec PyProof.Rows
open PySem.Builtin PySem.Builtin.Str
end L2
namespace LV
open PySem PySem.Spec PyProof.Rows L2
end LV
namespace L2
open PySem PySem.Spec PyProof.Rows
def Fly (h0:Heap)(H:Hp)(x:Addr)(cls:Value)(h:Heap):Prop:=
 ∃a0 oe vs T oT ts,h0.get? x=none/\h0.get? T=none/\H x=none/\H T=none/\h.get? x=some oe/\(oe.cls=cls/\vs[0]? = some a0)/\oe.data=.fields vs/\vs[1]? = some (.ref T)/\T≠x/\h.get? T=some oT/\oT.data=.fields ts/\ts[3]? = some .none
section
variable {P:Program}{w:World}{H H':Hp}{h h1 h2:Heap}{fs B:AL}
theorem dS1 (u:Un fs [] H H' h h1)(J:∀b∈B,h.get? b=none)(k:∀b o,h1.get? b=some o->b∉fs->b∉B->h2.get? b=some o)(ks:∀b o,h1.get? b=some o->b∈fs->∃sl,h2.get? b=some {o with slots:=sl}):Un fs [] H H' h h2 where
 keep:=λb o e n r j=>k b o (u.keep b o e n r j) r λz=>by rw[J b z]at e;cases e
 slot:=λb o e n r j=>by
  obtain⟨sl,s⟩:=u.slot b o e n r j;obtain⟨U,Y⟩:=ks b _ s r;exact⟨U,Y⟩
 free:=u.free
 there:=λb o e j=>by
  obtain⟨X,s⟩:=u.there b o e j;by_cases r:b∈fs
  .obtain⟨sl,Y⟩:=ks b X s r;exact⟨_,Y⟩
  .exact⟨X,k b X s r λz=>by rw[J b z]at e;cases e⟩
 tups:=u.tups
 frzs:=u.frzs
 tbls:=u.tbls
theorem cR6 (s:HOk P w H h1)(j:∀b∈fs,H b=none)(Y:∀b∈B,H b=none)(k:∀b o,h1.get? b=some o->b∉fs->b∉B->h2.get? b=some o):HOk P w H h2:=λa o e=>
 (s a o e).stay (λb u hb q=>by
  have X:∃y,H b=some y:=by
   rcases hb with rfl | hb
   .exact⟨_,e⟩
   .exact⟨_,hb⟩
  obtain⟨y,r⟩:=X;refine k b u q (λz=>?_) λz=>?_
  .rw[j b z]at r;cases r
  .rw[Y b z]at r;cases r) (λ_ q=>q) λ_ _ q=>q
theorem X9 (x:ObjOk P w H h a o):∃ob,h.get? a=some ob:=by
 cases o with
 | lst xs=>obtain⟨_,_,_,_,e⟩:=x;exact⟨_,e⟩
 | tup xs=>obtain⟨_,_,_,o,e,_⟩:=x;exact⟨_,e⟩
 | dK kvs=>obtain⟨_,_,_,_,o,_,_,e,_⟩:=x;exact⟨_,e⟩
 | dT kvs=>obtain⟨_,_,_,_,o,_,_,e,_⟩:=x;exact⟨_,e⟩
 | set S n=>obtain⟨o,_,_,_,e,_⟩:=x;exact⟨_,e⟩
 | ins C dx fs=>obtain⟨_,_,_,e,_⟩:=x;exact⟨_,e⟩
 | own y=>obtain⟨_,e⟩:=x;exact⟨_,e⟩
 | xd fs=>obtain⟨_,⟨_,_,_,e,_⟩,_⟩:=x;exact⟨_,e⟩
 | rng lo hi=>obtain⟨_,_,_,e⟩:=x;exact⟨_,e⟩
 | frz ob u=>obtain⟨e,_⟩:=x;exact⟨_,e⟩
 | tbl ps=>exact⟨_,show h.get? a=some _ from x⟩
 | met f y=>exact⟨_,show h.get? a=some _ from x⟩
 | ext φ=>obtain⟨_,e,_⟩:=x;exact e
theorem k4:∀{l:List Env},h.FunFrames base l->(∀b∈frs l,b∈D)->h.FunFrames (PySem.W.hideAll h1 D) l
 | [],_,_=>trivial
 | env::rest,⟨hk,⟨L,o,hf,hn,ho,hd⟩,hr⟩,hD=>by
  have hL:L∈frs (env::rest):=by unfold frs;rw[An,hf];exact Al ..
  refine⟨hk,⟨L,o,hf,PySem.W.hideAll_none _ (hD L hL),ho,hd⟩,k4 hr λb hb=>hD b ?_⟩
  unfold frs at hb ⊢;rw[An,hf];exact Ad4 _ hb
end
section
variable {P:Program}{w:World}{M:Model}{A:Around}{E:Dz}{s:Shared}{H0 H:Hp}{h0 base:Heap}{env:Env}{outer:List Env}{L x:Addr}{cls:Value}{Q:Unit->Shared->Prop}
theorem cQ8 (hfr:A.frames=some (env::outer))(hf:env.frame=some L)(hl:s.heap.FunFrames base (env::outer))(F:Fly h0 H x cls s.heap)(hth:∀b o,h0.get? b=some o->∃o',s.heap.get? b=some o')(hok:HOk P w H s.heap)
  (hQ:∀(h2:Heap) (B:AL),(∀b∈B,h0.get? b=none/\H b=none)->(∀b o,s.heap.get? b=some o->b∉frs (env::outer)->b∉B->h2.get? b=some o)->(∀b o,s.heap.get? b=some o->b∈frs (env::outer)->∃sl,h2.get? b=some {o with slots:=sl})->Fly h0 H x cls h2->Q () {s with heap:=h2}) :
  wpAny M A (leaving env (.ref x)) Q E s:=by
 obtain⟨a0,oe,vs,T,oT,ts,n1,n2,n3,n4,hx,hc,hd,h1,J,hT,N,h3⟩:=F;have r:∀b∈frs (env::outer),∃o,s.heap.get? b=some o/\∀vs,o.data≠.fields vs:=λb hb=>(hl.mem hb).2
 refine wpAny_leaves_onW (base:=PySem.W.hideAll s.heap (x::T::frs (env::outer))) (cls:=cls) (a0:=a0) hfr hf ⟨λb o e=>PySem.W.of_hideAll _ e,PySem.W.hideAll_none _ (Al ..),k4 hl λb hb=>Ad4 _ (Ad4 _ hb),oe,vs,T,oT,ts,hx,hc,hd,h1,PySem.W.hideAll_none _ (Ad4 _ (Al ..)),J,hT,N,h3⟩ λh2 R hup=>?_
 obtain⟨k1,_,_,oe',vs',j,oT',X,e1,e2,e3,e4,U,e6,e7,e8,e9⟩:=R;have ks:∀b o,s.heap.get? b=some o->b∈frs (env::outer)->∃sl,h2.get? b=some {o with slots:=sl}:=λb o e hb=>by
  obtain⟨o',e',Y⟩:=r b hb;rw[e]at e';cases e';exact hup b o e Y
 refine hQ h2 [x,T] (λb hb=>?_) (λb o e hb hB=>k1 b o (PySem.W.hideAll_get _ e ?_)) ks ⟨a0,oe',vs',j,oT',X,n1,?_,n3,?_,e1,e2,e3,e4,e6,e7,e8,e9⟩
 .rcases Aa1.mp hb with rfl | hb
  .exact⟨n1,n3⟩
  .rw[Ad8.mp hb];exact⟨n2,n4⟩
 .intro z;rcases Aa1.mp z with z | z
  .exact hB (z▸Al ..)
  .rcases Aa1.mp z with z | z
   .exact hB (z▸Ad4 _ (Al ..))
   .exact hb z
 all_goals
  by_cases hb:j∈x::T::frs (env::outer)
  .rcases Aa1.mp hb with z | z
   .exact absurd z e6
   .rcases Aa1.mp z with z | z
    .first | exact z▸n2 | exact z▸n4
    .exfalso
     obtain⟨o',e',Y⟩:=r j z;obtain⟨sl,q⟩:=ks j o' e' z;rw[e7]at q;have q:=Ab4 q;subst q;exact Y X e8
  .first
    | (cases q:h0.get? j with
     | none=>rfl
     | some o=>
      obtain⟨o',q'⟩:=hth j o q;rw[PySem.W.hideAll_get _ q' hb]at U;cases U)
    | (cases q:H j with
     | none=>rfl
     | some u=>
      obtain⟨o',q'⟩:=X9 (hok j u q);rw[PySem.W.hideAll_get _ q' hb]at U;cases U)
theorem dK6 (B:A.frames=some (env::outer))(hf:env.frame=some L)(hl:h.FunFrames base (env::outer))(R:Heap.MadeExcOf h s.heap x cls args)(hth:∀b o,h0.get? b=some o->∃o',h.get? b=some o')(hok:HOk P w H h)
  (hQ:∀(h2:Heap),(∀b o,h.get? b=some o->b∉frs (env::outer)->h2.get? b=some o)->(∀b o,h.get? b=some o->b∈frs (env::outer)->∃sl,h2.get? b=some {o with slots:=sl})->Fly h0 H x cls h2->Q () {s with heap:=h2}) :
  wpAny M A (leaving env (.ref x)) Q E s:=by
 have r:∀b∈frs (env::outer),∃o,h.get? b=some o/\∀vs,o.data≠.fields vs:=λb Y=>(hl.mem Y).2
 have j:∀b,h.get? b=none->h0.get? b=none/\H b=none:=λb e=>by
  constructor
  .cases q:h0.get? b with
   | none=>rfl
   | some o=>obtain⟨o',J⟩:=hth b o q;rw[e]at J;cases J
  .cases q:H b with
   | none=>rfl
   | some u=>obtain⟨o',J⟩:=X9 (hok b u q);rw[e]at J;cases J
 refine wpAny_leaves_madeW (base:=PySem.W.hideAll h (frs (env::outer))) B hf (λb o e=>PySem.W.of_hideAll _ e) (k4 hl λb Y=>Y) R λh2 t F _ _ hup=>?_
 obtain⟨k1,_,_,oe',vs',X,oT',N,e1,e2,e3,e4,e5,e6,e7,e8,e9⟩:=F;have ks:∀b o,h.get? b=some o->b∈frs (env::outer)->∃sl,h2.get? b=some {o with slots:=sl}:=λb o e Y=>by
  obtain⟨o',e',U⟩:=r b Y;rw[e]at e';cases e';exact hup b o (R.keeps b o e) U
 have hT:h.get? X=none:=by
  cases q:h.get? X with
  | none=>rfl
  | some o=>
   by_cases Y:X∈frs (env::outer)
   .obtain⟨o',e',U⟩:=r X Y;obtain⟨sl,q⟩:=ks X o' e' Y;rw[e7]at q;have q:=Ab4 q;subst q;exact absurd e8 (U N)
   .rw[PySem.W.hideAll_get _ q Y]at e5;cases e5
 exact hQ h2 (λb o e Y=>k1 b o (PySem.W.hideAll_get _ e Y)) ks ⟨_,oe',vs',X,oT',N,(j x R.new).1,(j X hT).1,(j x R.new).2,(j X hT).2,e1,e2,e3,e4,e6,e7,e8,e9⟩
end
section
variable {P:Program}{w:World}{K:Frag}{mg:Str->Option Value}{base:Heap}{N:AH}{qual:Str}{scope:Scope}{f:Addr}{cd:Value}{A:Around}{outer:List Env}{s:Shared}{H:Hp}{E:XK}
theorem dR6 (h:env.frame=some L):frs (env::outer)=L::frs outer:=by unfold frs;rw[An,h]
end
abbrev bmV:AG:=[.type "ValueError",.type "Exception",.type "BaseException",.type "object"]
theorem bE5 {K:Frag}{h:Heap}{C:Addr}{bmB:AG}{newId:String}(X:K.In h)(q:PySem.W.excIn K C bmB newId=true) :
  ∃bm N nm qn bs hdct sn sub ab col dd k0 k1 k2 k3 k5 mN,h.get? C=some (excClassObj nm qn C N bs bm hdct sn sub ab col dd k0 k1 k2 k3 k5 newId)/\h.Ns N mN/\mN "__init__" = none/\OwnTail h bmB bm:=by
 unfold PySem.W.excIn at q;split at q
 .rename_i dd J U ho;split at q
  .rename_i P bm k0 k1 k2 k3 n k5 s Y;simp only[Ap,beq_iff_eq,Bool.not_eq_true']at q;obtain⟨⟨⟨⟨⟨rfl,rfl⟩,e⟩,Q⟩,w⟩,r⟩:=q;obtain⟨nm,bs,F,B,qn,R,sn,sub,ab,col,M⟩:=J;dsimp only at s e w r;subst s e;have j:U = #[k0,k1,k2,k3,some (.builtin n),k5]:=by
    obtain⟨l⟩:=U;simp only at Y;rw[Y]
   subst j;exact⟨bm,B,nm,qn,bs,R,sn,sub,ab,col,dd,k0,k1,k2,k3,k5,_,X _ _ ho,.of_isNs (PySem.W.isNs_of_in X w),PySem.W.nsMap_none_of_in X w r,PySem.W.tail_of_in X Q⟩
  .cases q
 .cases q
section
def dF2 (EX:Hp->Prop)(t:TA):TS:=λ_ σ H=>t σ H λvs H1=>vs.length<=1000/\EX H1
theorem aX9 {x:Str}{C:Addr}{e0:Expr}{rest:AM}{t:TA}{EX:Hp->Prop}{np cpos pos:Pos}(hg:Gl X x)(j:X.mg x=some (.ref C))(B:PySem.W.excIn X.K C bmV "ValueError.__new__" = true)(hc:X.calm=true)(ha:PA X (e0::rest) t)
  (P:∀(bA:Eb) (σ:St) (H:Hp) (s:Shared) (h':Heap) (y:Addr) (vs:AG),Inv X bA σ H s->Heap.MadeExcOf s.heap h' y (.ref C) vs->EX H->X.xe (.ref y) {s with heap:=h'}) (r:(x==("__debug__" : Str))=false:=by decide)
  (U:starEach (e0::rest) X.env=(false,eval e0 X.env)::starEach rest X.env:=by rfl) (Y:(backTo cpos (starEach rest X.env)).any (·.1)=false:=by rfl):PS X (.Raise (some (.Call (.Name x np) (e0::rest) [] cpos)) none pos) (dF2 EX t):=by
 refine⟨?_⟩;intro bA s σ H D I h;obtain⟨bm,N,nm,qn,bs,hdct,sn,sub,ab,col,dd,k0,k1,k2,k3,k5,mN,o1,o2,o3,M⟩:=bE5 I.ok.mod.kin B;refine wpAny_Raise_call_subU (C:=C) (nm:=nm) (q:=qn) (N:=N) (bs:=bs) (bm:=bm) (hdct:=hdct) (sn:=sn) (sub:=sub) (ab:=ab) (col:=col) (dd:=dd) (k0:=k0) (k1:=k1) (k2:=k2) (k3:=k3) (k5:=k5) (newId := "ValueError.__new__") F.excBase_ValueError (by decide) F.excBase_ValueError (mN:=mN) (M.hasType F.excBase_ValueError.hasBase) (I.ok.hd hc) (by rw[U];show(false||(backTo cpos (starEach rest X.env)).any (·.1))=false;rw[Y];rfl) o3 (Z5 I hg j ⟨rfl,?_⟩ r)
 have J:=ha cpos bA s σ H _ I h
 rw[U]at J ⊢;refine Calls.evalArgs_plain (wpAny_mono J (λvs s2 Q=>?_) λ_ _ y=>y)
 obtain⟨us,R,w,r1,hl,q⟩:=Q;refine⟨rfl,?_,w.bk _ _ o1,o2.keeps w.bk,M.keeps w.bk,λh' e j=>P bA σ R s2 h' e vs w j q⟩
 have:=r1.length
 show vs.length<=sizeLine
 unfold sizeLine
 lia
end
section
variable {prog:Program}{w:World}{A:Around}{E:Dz}{s:Shared}{K:Frag}{x C:Addr}{cd:ClassData}{vs:AJ}{sl:Array (Option Value)}{name:Str}{v:Value}
structure eL2 (K:Frag)(C:Addr)(cd:ClassData):Prop where
 cls:PySem.W.clsIn K C=some cd
 mro:∀self:Value,refuseLoop self "__setattr__" cd.mro=pure ()
 obj:PySem.W.mroIn K C (.type "object")=some true
 dict:cd.hasDict=true
 sa:PySem.W.findIn K (.ref C) "__setattr__" = some (some (.builtin "object.__setattr__"))
theorem dP9 (X:K.In s.heap)(c:eL2 K C cd)(N:s.heap.get? x=some ⟨.ref C,none,.fields vs,sl⟩)(ha:PySem.W.findIn K (.ref C) name=some none)
  (h:∀h',h'.get? x=some ⟨.ref C,some s.heap.objs.size,.fields vs,sl⟩->h'.Ns1 s.heap.objs.size (λy=>if y=name then some v else none)->(∀b o,b≠x->s.heap.get? b=some o->h'.get? b=some o)->Q () {s with heap:=h',toks:=s.toks+2}) :
  wpAny (model prog w) A (setAttr (.ref x) name v) Q E s:=by
 have J:PySem.W.InstAt s.heap x ⟨.ref C,none,.fields vs,sl⟩ C none:=⟨N,rfl,rfl,trivial⟩
 refine PySem.W.set_plain X J c.sa ?_;have ty:PySem.W.Looks (model prog w) s.heap (isInstance (.ref x) (.type "object")) true:=J.type.andThen (PySem.W.looks_mroIn X c.obj);have tw:PySem.W.Looks (model prog w) s.heap (mroOf (.ref C)) cd.mro:=(PySem.W.looks_clsIn X c.cls).andThen .now;have Y:=PySem.F.store_object;refine codeAny_call_builtin Y.slot.plain Y.entry ?_;refine @PySem.W.check_slot _ _ _ {s with toks:=s.toks+1} "object.__setattr__" "object" "__setattr__" (.ref x) [.str name s.toks,v] [] _ Y.kind Y.split ty (Y.args _ _ _) ?_
 rw[PySem.W.osa_eq,refuse_eq];refine Aa (Aa (J.type.here (s:={s with toks:=s.toks+1}) (Aa (tw.here (s:={s with toks:=s.toks+1}) ?_))))
 rw[c.mro];refine Ae (Aa (J.type.here (s:={s with toks:=s.toks+1}) (Aa ((PySem.W.looks_findIn X ha).here (s:={s with toks:=s.toks+1}) (Aa (Ae ?_))))))
 refine Aa (Ae (Aa (Aa (wpAny_loadPart N (Aa ((PySem.W.looks_clsIn X c.cls).here (s:={s with toks:=s.toks+1}) ?_))))))
 rw[c.dict];show wpAny _ _ (alloc {cls:=.type "dict",data:=.dict #[]} >>= λP=>update x (λo=>{o with dict:=some P}) >>= λ_=>dictMade (.ref C) x P) _ _ _
 have xs:x≠s.heap.objs.size:=Ab9 (Ab3 N)
 obtain⟨hp,U⟩:∃hp,hp=s.heap.push {cls:=.type "dict",data:=.dict #[]}:=⟨_,rfl⟩;have p1:hp.get? x=some ⟨.ref C,none,.fields vs,sl⟩:=by rw[U];exact Aa6 _ N
 have p2:hp.get? s.heap.objs.size=some {cls:=.type "dict",data:=.dict #[]}:=by rw[U];exact Heap.get?_push_at rfl rfl
 have p3:∀b o,s.heap.get? b=some o->hp.get? b=some o:=λb o e=>by rw[U];exact Aa6 _ e
 refine Aa (wpAny_alloc' ?_);rw[<- U];refine Aa (wpAny_update' p1 ?_);obtain⟨r,M⟩:∃r,r=hp.update x (λo=>{o with dict:=some s.heap.objs.size}):=⟨_,rfl⟩
 have u1:r.get? x=some ⟨.ref C,some s.heap.objs.size,.fields vs,sl⟩:=by rw[M];exact Ci _ p1 rfl
 have u2:r.get? s.heap.objs.size=some {cls:=.type "dict",data:=.dict #[]}:=by rw[M];exact(Bz _ _ xs).trans p2
 have u3:∀b o,b≠x->s.heap.get? b=some o->r.get? b=some o:=λb o B e=>by rw[M];exact(Bz _ _ (Ne.symm B)).trans (p3 b o e)
 rw[<- M];refine Ae ?_;have R:r.Ns s.heap.objs.size (λ_=>none):=⟨_,#[],_,u2,rfl,λe he=>absurd he (by simp),λ_=>rfl⟩
 show wpAny _ _ (Builtin.ObjectAttr.storeInDict s.heap.objs.size (.str name s.toks) name v) _ _ _
 unfold Builtin.ObjectAttr.storeInDict Builtin.ObjectAttr.newKeyGuard;refine Aa (Ae (Aa (wpAny_nsSet1 (Heap.Ns1.of_empty R) λhn j sb=>?_)))
 obtain⟨oD,es,ep,g1,g2,g3⟩:=j.count (PySem.Within.cons name v PySem.Within.nil);refine Aa (wpAny_lookBehind g1 (by rw[g2];exact pastItsLine_dict (Bd g3 (by simp[Dg]))) ?_)
 exact Ae (h hn ((sb.2 x xs).trans u1) j λb o B e=>(sb.2 b (Ab9 (Ab3 e))).trans (u3 b o B e))
end
section
variable {prog:Program}{w:World}{A:Around}{E:Dz}{s:Shared}{K:Frag}{x C:Addr}{ox:Obj}{od:Option Obj}{name:Str}{v:Value}{expr:Bool}
structure dA4 (K:Frag)(C:Addr):Prop where
 ga:PySem.W.findIn K (.ref C) "__getattribute__" = some (some (.builtin "BaseException.__getattribute__"))
 gt:PySem.W.findIn K (.ref C) "__getattr__" = some none
 up:PySem.W.mroIn K C (.type "BaseException")=some true
theorem cY7 (X:K.In s.heap)(J:PySem.W.InstAt s.heap x ox C od)(c:dA4 K C)(j:PySem.W.findObj K C od name=some (.value v))(Y:PySem.W.handedIn v=true)(h:Q v {s with toks:=s.toks+1}) :
  wpAny (model prog w) A (getAttr (.ref x) name expr) Q E s:=by
 have e:=PySem.F.attr_ValueError.ga
 unfold getAttr getAttrBy;refine Aa (wpAny_mkText (Ce (Aa (J.type.here (s:={s with toks:=s.toks+1}) (Aa ((PySem.W.looks_findIn X c.ga).here (s:={s with toks:=s.toks+1}) ?_))))))
 dsimp only
 rw[show(Value.builtin "BaseException.__getattribute__" == Value.builtin "object.__getattribute__")=false from by decide +kernel,Bool.and_false,Ab Ah]
 unfold getAttrByItsOwn;refine Aa ((PySem.W.looks_hook (mc:=.ref C) X (r:=none) (by rw[show onTheHeap (Value.ref C)=true from rfl];exact c.gt)).here (s:={s with toks:=s.toks+1}) (Aa (wpAny_attempt (Ce ?_))))
 unfold callGetattribute;rw[show(expr&&onTheHeap (Value.builtin "BaseException.__getattribute__"))=false from Bool.and_false _,Ab Ah]
 unfold boundAndCalled;rw[e.bind];refine Aa (Ae ?_);have ty:PySem.W.Looks (model prog w) s.heap (isInstance (.ref x) (.type "BaseException")) true:=J.type.andThen (PySem.W.looks_mroIn X c.up);show wpAny _ _ (call (.builtin "BaseException.__getattribute__") [.ref x,.str name s.toks]) _ _ _;refine wpAny_call (codeAny_call_builtin e.plain PySem.F.entry_bexc_ga ?_);refine @PySem.W.check_slot _ _ _ {s with toks:=s.toks+1} "BaseException.__getattribute__" "BaseException" "__getattribute__" (.ref x) [.str name s.toks] [] _ (by decide +kernel) (by decide +kernel) ty (PySem.F.args_bexc_ga _ _) ?_
 unfold Builtin.«object.__getattribute__»;refine Aa (Ae (Aa (Ae (Aa (J.type.here (s:={s with toks:=s.toks+1}) (Aa ((PySem.W.looks_find X J j).here (s:={s with toks:=s.toks+1}) ?_)))))))
 refine Ae ?_;show wpAny _ _ (handedOut v) _ _ _;exact PySem.W.handed_on Y h
end
def dV3 (C T:Addr):Obj:={cls:=.ref C,data:=.fields #[.ref T,.none,.none,.none,.bool false,.none]}
section
variable {prog:Program}{w:World}{A:Around}{E:Dz}{h:Heap}{g:Array GenState}{d:Drawn}{t:Nat}{os:OsState}
variable {nm q:Str}{C N fI:Addr}{bs bm bmB:AG}{hdct:Bool}{sn:AH}{sub:AG}{ab:Bool}{col:Option Bool}{dd:AK}{k0 k1 k2 k3 k5:Option Value}{B Bn newId nid initId inN:String}{bmN:AG}{mN:Str->Option Value}{oI:Obj}{rest:AG}
theorem bV1 (M:ExcBaseFacts Bn newId inN bmN)(U:bmB.contains (.type Bn)=true)(F:ExcBaseFacts B nid initId bmB)(T:OwnTail h bmB bm)
  (s:h.get? C=some (excClassObj nm q C N bs bm hdct sn sub ab col dd k0 k1 k2 k3 k5 newId)) (hn:h.Ns N mN) (hi:mN "__init__" = some (.ref fI)) (hf:h.get? fI=some oI) (P:oI.cls=.type "function") (hl:rest.length<=sizeLine)
  (hq:∀h':Heap,(∀b o,h.get? b=some o->h'.get? b=some o)->h'.get? h.objs.size=some {cls:=.type "tuple",data:=.seq rest.toArray}->h'.get? (h.objs.size+1)=some (dV3 C h.objs.size)->h'.objs.size=h.objs.size+2 ->
   wpAny (model prog w) (A.under (.builtin "type.__call__" ⟨.ref C::rest,[]⟩)) (call (.ref fI) (.ref (h.objs.size+1)::rest)) (λr s'=>r=.none/\Q (.ref (h.objs.size+1)) s') E ⟨h',g,d,t,os⟩) :
  wpAny (model prog w) A (call (.ref C) rest) Q E ⟨h,g,d,t,os⟩:=by
 obtain⟨j,X⟩:∃j,j=(h.push {cls:=.type "tuple",data:=.seq rest.toArray}).push (dV3 C h.objs.size):=⟨_,rfl⟩;have J:∀b o,h.get? b=some o->j.get? b=some o:=λb o e=>by rw[X];exact Aa6 _ (Aa6 _ e)
 have R:j.get? h.objs.size=some {cls:=.type "tuple",data:=.seq rest.toArray}:=by rw[X];exact Aa6 _ (Heap.get?_push_at rfl rfl)
 have Y:j.get? (h.objs.size+1)=some (dV3 C h.objs.size):=by rw[X];exact Heap.get?_push_at (Cf _ _).symm rfl
 have sz:j.objs.size=h.objs.size+2:=by rw[X,Cf,Cf]
 have n2:j.Ns N mN:=by obtain⟨o,es,ep,e,z⟩:=hn;exact⟨o,es,ep,J _ _ e,z⟩
 have C2:=J _ _ s
 have T2:=T.keeps J
 have own:(Value.ref C::bm).contains (.ref C)=true:=by simp
 have l1:=tc_lookup
 have l2:=tc_bind (.ref C)
 have ty:(⟨h,g,d,t,os⟩:Shared).TypeIs (.ref C) "type" := ⟨_,s,rfl⟩
 refine wpAny_call (codeAny_of_tree ?_);show wpAny _ _ (callAny (.ref C) _) _ _ _
 repeat (any_goals (first | assumption | wp_step | with_reducible refine wpAny_loadPart_at s ?_))
 refine⟨rfl,codeAny_call_builtin_at (Code.quiet_builtin _ (by decide +kernel)) entry_typeCall (wpAny_check_type_call_sub s ?_)⟩
 repeat (first | wp_step | with_reducible refine wpAny_madeBy_exc s ?_ | with_reducible refine wpAny_loadPart_at s ?_)
 refine codeAny_call_builtin_code (Code.quiet_builtin _ M.quiet) (wpAny_check_new_subU M U T s (codeAny_exc_new_subU M U F T s ?_ hl));show wpAny _ _ _ _ _ ⟨(h.push {cls:=.type "tuple",data:=.seq rest.toArray}).push (dV3 C h.objs.size),g,d,t,os⟩;rw[<- X];unfold isInstance
 repeat (first | wp_step | with_reducible refine wpAny_loadPart_at Y ?_)
 show wpAny _ _ (isSubtype (.ref C) (.ref C)) _ _ _
 refine wpAny_isSubtype_exc C2 ?_;rw[own]
 repeat wp_step
 show wpAny _ _ (typeLookup (.ref C) "__init__") _ _ _
 refine wpAny_typeLookup_tail C2 n2 T2 F.mroIs F.init.lookup ?_;rw[hi];refine Ce (Aa ?_);unfold bindSpecial;refine Aa (wpAny_typeOf (T := "function") ⟨_,J _ _ hf,P⟩ ?_);rw[Ac (by decide)]
 refine Ae (Aa (wpAny_mono (hq j J R Y sz) (λr s' z=>?_) λ_ _ z=>z))
 obtain⟨rfl,z⟩:=z
 wp_walk
 exact z
end
section
variable {prog:Program}{w:World}{A:Around}{E:Dz}{h:Heap}{g:Array GenState}{d:Drawn}{t:Nat}{os:OsState}
variable {nm q:Str}{C N:Addr}{bs bm bmB:AG}{hdct:Bool}{sn:AH}{sub:AG}{ab:Bool}{col:Option Bool}{dd:AK}{k0 k1 k2 k3 k5:Option Value}{B newId nid initId:String}{rest:AG}
theorem dG0 (F:ExcBaseFacts B nid initId bmB)(T:OwnTail h bmB bm)
  (s:h.get? C=some (excClassObj nm q C N bs bm hdct sn sub ab col dd k0 k1 k2 k3 k5 newId)) (r:h.get? e=some ⟨.ref C,od,.fields #[.ref t0,v1,v2,v3,v4,v5],sl⟩) (U:rest.length<=sizeLine)
  (X:∀h':Heap,(∀b o,b≠e->h.get? b=some o->h'.get? b=some o)->h'.get? e=some ⟨.ref C,od,.fields #[.ref h.objs.size,v1,v2,v3,v4,v5],sl⟩->h'.get? h.objs.size=some {cls:=.type "tuple",data:=.seq rest.toArray}->h'.objs.size=h.objs.size+1->Q .none ⟨h',g,d,t,os⟩) :
  wpAny (model prog w) A (call (.builtin initId) (.ref e::rest)) Q E ⟨h,g,d,t,os⟩:=by
 refine wpAny_call (codeAny_call_builtin F.init.plain F.initEntry (wpAny_check_init_subU F T s r rfl ?_))
 wp_walk
 have ne:e≠h.objs.size:=Ab9 (Ab3 r)
 refine X _ (λb o Y j=>?_) ?_ ?_ ?_
 .exact(Bz _ _ (Ne.symm Y)).trans (Aa6 _ j)
 .exact(Ci _ (Aa6 _ r) rfl).trans rfl
 .exact(Bz _ _ ne).trans (Heap.get?_push_at rfl rfl)
 .rw[Heap.size_update,Cf]
end
section
variable {prog:Program}{w:World}{A:Around}{E:Dz}{s:Shared}{K:Frag}{C:Addr}{initId:String}{pl:Sem Bool}
structure dT4 (K:Frag)(C:Addr)(initId:String):Prop where
 sp:PySem.W.specialIn K (.ref C) "__getattribute__" = some (some (.builtin "type.__getattribute__"))
 rd:PySem.W.readsIn K C (.type "type")=true
 fc:PySem.W.findCls K (.ref C) (.type "type") "__init__" = some (.val (.builtin initId))
 hd:PySem.W.handedIn (.builtin initId)=true
theorem dE5 (X:K.In s.heap)(c:dT4 K C initId)(h:Q (.builtin initId,[]) {s with toks:=s.toks+1}):wpAny (model prog w) A (getMethod (.ref C) "__init__" pl) Q E s:=
 PySem.W.method_cls X c.sp (PySem.W.cls_value X c.rd c.fc c.hd h)
end
open Sem (wp)
def Tame {α:Type}:Sem α->Prop
 | .pure _=>True
 | .raise _=>True
 | .unsupported _=>True
 | .finish _=>True
 | .rule _ k=>Tame (k ())
 | .at _ k=>Tame (k ())
 | .load _ _ k=>∀o,Tame (k o)
 | .update _ _ f k=>(∀o:Obj,(f o).dict=o.dict)/\Tame (k ())
 | .alloc _ k=>∀a,Tame (k a)
 | .loadIfAlive _ k=>∀o,Tame (k o)
 | .point _ k=>Tame (k ())
 | .fresh k=>∀t,Tame (k t)
 | .ask k=>∀x,Tame (k x)
 | .handled _ k=>∀x,Tame (k x)
 | .stack k=>∀x,Tame (k x)
 | .thread k=>∀x,Tame (k x)
 | .genState _ k=>∀x,Tame (k x)
 | _=>False
def Kd (h h':Heap):Prop:=∀(b:Nat) (o:Obj),h.objs[b]? = some o->∃o':Obj,h'.objs[b]? = some o'/\o'.dict=o.dict
theorem Kd.rf (h:Heap):Kd h h:=λb o e=>⟨o,e,rfl⟩
theorem Kd.tr {h h1 h2:Heap}(a:Kd h h1)(b:Kd h1 h2):Kd h h2:=λc o e=>by
 obtain⟨Y,j,w⟩:=a c o e;obtain⟨X,s,r⟩:=b c Y j;exact⟨X,s,r.trans w⟩
theorem cU7 (h:Heap)(o:Obj):Kd h (h.push o):=λb r e=>⟨r,by
 have w:=(Array.getElem?_eq_some_iff.mp e).1
 show(h.objs.push o)[b]? = some r
 rw[Array.getElem?_push_lt w];rw[Cg w]at e;exact e,rfl⟩
theorem bW3 (h:Heap)(a:Addr)(f:Obj->Obj)(w:∀o,(f o).dict=o.dict):Kd h (h.update a f):=λb o e=>by
 by_cases c:b=a
 .subst c;refine⟨f o,?_,w o⟩;show(h.objs.modify b f)[b]? = _;rw[Array.getElem?_modify,Ac rfl,e];rfl
 .refine⟨o,?_,rfl⟩;show(h.objs.modify a f)[b]? = _;rw[Array.getElem?_modify,Ab (λz=>c z.symm),e]
section
variable {α β:Type}{M:Model}{Γ : PySem.Ctx}
theorem dX9:∀(t:Sem α) (Q:α->Pos->Shared->Prop) (E:Value->Pos->Shared->Prop) (p:Pos) (s:Shared),Tame t->wp M Γ t Q E p s->wp M Γ t (λa p' s'=>Q a p' s'/\Kd s.heap s'.heap) (λe p' s'=>E e p' s'/\Kd s.heap s'.heap) p s:=by
 intro t;induction t with
 | pure a=>intro Q E p s _ h;rw[wp]at h ⊢;exact⟨h,Kd.rf _⟩
 | raise e=>intro Q E p s _ h;rw[wp]at h ⊢;exact⟨h,Kd.rf _⟩
 | unsupported w=>intro Q E p s _ h;rw[wp]at h;exact h.elim
 | finish e=>intro Q E p s _ h;rw[wp]at h;exact h.elim
 | rule tag k ih=>intro Q E p s c h;rw[wp]at h ⊢;exact ih () Q E p s c h
 | «at» pos k ih=>intro Q E p s c h;rw[wp]at h ⊢;exact ih () Q E pos s c h
 | load a part k ih=>intro Q E p s c h;rw[wp]at h ⊢;obtain⟨o,e,h⟩:=h;exact⟨o,e,ih o Q E p s (c o) h⟩
 | update a part f k ih=>
  intro Q E p s c h;rw[wp]at h ⊢;refine⟨h.1,Sem.wp_mono M Γ _ (λ_ p' s' z=>⟨z.1,(bW3 s.heap a f c.1).tr z.2⟩) (λ_ p' s' z=>⟨z.1,(bW3 s.heap a f c.1).tr z.2⟩) _ _ (ih () Q E p _ c.2 h.2)⟩
 | alloc o k ih=>
  intro Q E p s c h;rw[wp]at h ⊢;exact Sem.wp_mono M Γ _ (λa p' s' z=>⟨z.1,(cU7 s.heap o).tr z.2⟩) (λe p' s' z=>⟨z.1,(cU7 s.heap o).tr z.2⟩) _ _ (ih _ Q E p _ (c _) h)
 | loadIfAlive a k ih=>intro Q E p s c h;rw[wp]at h ⊢;exact ih _ Q E p s (c _) h
 | point l k ih=>intro Q E p s c h;rw[wp]at h ⊢;exact ih () Q E p s c h
 | register a k ih=>intro Q E p s c h;exact c.elim
 | fresh k ih=>intro Q E p s c h;rw[wp]at h ⊢;exact ih _ Q E p _ (c _) h
 | ask k ih=>intro Q E p s c h;rw[wp]at h ⊢;exact ih _ Q E p s (c _) h
 | choose src n k ih=>intro Q E p s c h;exact c.elim
 | os q l k ih=>intro Q E p s c h;exact c.elim
 | call c' h' g l k ih=>intro Q E p s c h;exact c.elim
 | handled own k ih=>intro Q E p s c h;rw[wp]at h ⊢;exact ih _ Q E p s (c _) h
 | newGen c' k ih=>intro Q E p s c h;exact c.elim
 | genState g k ih=>intro Q E p s c h;rw[wp]at h ⊢;obtain⟨st,e,h⟩:=h;exact⟨st,e,ih _ Q E p s (c _) h⟩
 | resume g r l k ih=>intro Q E p s c h;exact c.elim
 | yield v g l k ih=>intro Q E p s c h;exact c.elim
 | stack k ih=>intro Q E p s c h;rw[wp]at h ⊢;exact ih _ Q E p s (c _) h
 | fork c' k ih=>intro Q E p s c h;exact c.elim
 | thread k ih=>intro Q E p s c h;rw[wp]at h ⊢;exact ih _ Q E p s (c _) h
 | await a tk ti l k ih=>intro Q E p s c h;exact c.elim
theorem aD5 (c:Tame t)(h:wpAny M A t Q E s):wpAny M A t (λa s'=>Q a s'/\Kd s.heap s'.heap) (λe s'=>E e s'/\Kd s.heap s'.heap) s:=λ Γ p w=>dX9 t _ _ p s c (h Γ p w)
theorem Tame.bind (h:Tame t)(X:∀a,Tame (f a)):Tame (t >>= f):=by
 show Tame (t.bind f)
 induction t with
 | pure a=>exact X a
 | raise e=>trivial
 | unsupported w=>trivial
 | finish e=>trivial
 | rule J k j=>exact j () h
 | «at» pos k j=>exact j () h
 | load a s k j=>exact λo=>j o (h o)
 | update a s g k j=>exact⟨h.1,j () h.2⟩
 | alloc o k j=>exact λa=>j a (h a)
 | loadIfAlive a k j=>exact λo=>j o (h o)
 | point l k j=>exact j () h
 | fresh k j=>exact λa=>j a (h a)
 | ask k j=>exact λa=>j a (h a)
 | handled own k j=>exact λa=>j a (h a)
 | stack k j=>exact λa=>j a (h a)
 | thread k j=>exact λa=>j a (h a)
 | genState g k j=>exact λa=>j a (h a)
 | register a k j=>exact h.elim
 | choose U n k j=>exact h.elim
 | os q l k j=>exact h.elim
 | call Y N g l k j=>exact h.elim
 | newGen Y k j=>exact h.elim
 | resume g r l k j=>exact h.elim
 | yield v g l k j=>exact h.elim
 | fork Y k j=>exact h.elim
 | await a tk R l k j=>exact h.elim
end
end L2
namespace L2
open PySem PySem.Spec PyProof.Rows
theorem bR7 (v:Value):Tame (fieldsOf v):=by
 unfold fieldsOf;split
 .refine Tame.bind (λo=>trivial) λo=>?_
  split <;> trivial
 .trivial
theorem aG0 (v:Value)(i:Nat):Tame (field v i):=by
 unfold field;refine Tame.bind (bR7 v) λvs=>?_
 split <;> trivial
theorem aB5 (v:Value)(i:Nat)(x:Value):Tame (setField v i x):=by
 unfold setField;split
 .unfold updateField;refine Tame.bind (λo=>trivial) λo=>?_
  split
  .split
   .exact⟨λo=>by unfold Obj.mapFields;split <;> rfl,trivial⟩
   .trivial
  .trivial
 .trivial
theorem u9 (e:Value)(f:AK):Tame (setFlight e f):=by
 unfold setFlight;refine Tame.bind (aG0 e 1) λw=>?_
 split
 .exact aB5 _ _ _
 .trivial
theorem bL7 (ty:String)(vs:AG):Tame (newFields ty vs):=by
 have h:Tame (newObjAsIs (.type ty) (.fields vs.toArray)):=by
  unfold newObjAsIs;exact Tame.bind (λa=>trivial) λa=>trivial
 unfold newFields newObj;dsimp only;split
 .exact Tame.bind trivial λ_=>h
 .exact h
theorem bR1 (a b c d e:Value)(p:AG):Tame (EntryCells.newEntry a b c d e p):=bL7 _ _
theorem aT4:Tame stack:=λ_=>trivial
theorem cS0 (f:Addr)(b:Bool):Tame (entryPlaceOf f b):=by
 unfold entryPlaceOf;refine Tame.bind aT4 λe=>?_
 split <;> trivial
theorem bL9:Tame frameEnvs:=by
 unfold frameEnvs;exact Tame.bind aT4 λ_=>trivial
theorem bR8 (env:Env)(b:Bool)(l:List Env):Tame (keptBack env b l):=by
 unfold keptBack;split
 .split
  .trivial
  .unfold underTheClaimsCaller;exact Tame.bind (Tame.bind aT4 λ_=>trivial) λ_=>trivial
 .trivial
theorem cF3 (env:Env)(l:List Env):Tame (behindIsImport env l):=by
 unfold behindIsImport;split
 .trivial
 .split
  .trivial
  .exact Tame.bind (aG0 _ _) λ_=>trivial
theorem bQ1:∀l:List Env,Tame (readyFrames l)
 | []=>trivial
 | env::outer=>by
  unfold readyFrames;split
  .refine Tame.bind (λo=>trivial) λo=>?_
   split
   .trivial
   .exact Tame.bind (cF3 env outer) λi=>Tame.bind (bR8 env i outer) λb=>Tame.bind ⟨λo=>rfl,trivial⟩ λ_=>bQ1 outer
  .trivial
theorem bG6 (l:List Env):Tame (frameObject l):=by
 unfold frameObject;split
 .trivial
 .exact Tame.bind (bQ1 _) λ_=>trivial
theorem cD5 (env:Env):Tame (PySem.frameOf env):=by
 unfold PySem.frameOf;refine Tame.bind bL9 λl=>Tame.bind (bG6 _) λo=>?_
 split <;> trivial
theorem bU9 (env:Env)(e:Value):Tame (noteFrame e env):=by
 unfold noteFrame;split
 .refine Tame.bind (aG0 e 1) λw=>?_
  have r:∀f:Addr,Tame (do setField e 1 (<- EntryCells.newEntry w (<- PySem.frameOf env) .none (rawInt f) .none (<- entryPlaceOf f (w != .none)))):=λf=>Tame.bind (cD5 env) λa=>Tame.bind (cS0 f _) λp=>Tame.bind (bR1 _ _ _ _ _ _) λb=>aB5 _ _ _
  dsimp only
  split
  .refine Tame.bind (aG0 w 3) λz=>?_
   split
   .trivial
   .exact Tame.bind (aB5 _ _ _) λ_=>r _
  .exact r _
 .trivial
theorem aG4 (env:Env)(e:Value):Tame (leaving env e):=Tame.bind (bU9 env e) λ_=>u9 e none
structure Mv (fs B:AL)(h h':Heap):Prop where
 k:∀b o,h.get? b=some o->b∉fs->b∉B->h'.get? b=some o
 s:∀b o,h.get? b=some o->b∈fs->∃sl,h'.get? b=some {o with slots:=sl}
section
variable {P:Program}{w:World}{H:Hp}{h h0 h2 base:Heap}{l:List Env}{x T:Addr}{cls a0:Value}
theorem cK2 (hl:h.FunFrames base l)(M:∀b o,h0.get? b=some o->∃o',h.get? b=some o')(J:HOk P w H h)(n1:h0.get? x=none)(n2:h0.get? T=none)(n3:H x=none)(n4:H T=none)
  (k1:(PySem.W.hideAll h (x::T::frs l)).StaysIn h2) (tr:h2.TracedW (PySem.W.hideAll h (x::T::frs l)) x cls a0) (N:h.UpToSlots h2):Mv (frs l) [x,T] h h2/\Fly h0 H x cls h2:=by
 obtain⟨Q,B,s,R,X,e1,e2,e3,e4,U,e6,e7,e8,e9⟩:=tr;have r:∀b∈frs l,∃o,h.get? b=some o/\∀vs,o.data≠.fields vs:=λb j=>(hl.mem j).2
 have ks:∀b o,h.get? b=some o->b∈frs l->∃sl,h2.get? b=some {o with slots:=sl}:=λb o e j=>by
  obtain⟨o',e',Y⟩:=r b j;rw[e]at e';cases e';exact N b o e Y
 refine⟨⟨λb o e j hB=>k1 b o (PySem.W.hideAll_get _ e ?_),ks⟩,a0,Q,B,s,R,X,n1,?_,n3,?_,e1,e2,e3,e4,e6,e7,e8,e9⟩
 .intro z;rcases Aa1.mp z with z | z
  .exact hB (z▸Al ..)
  .rcases Aa1.mp z with z | z
   .exact hB (z▸Ad4 _ (Al ..))
   .exact j z
 all_goals
  by_cases j:s∈x::T::frs l
  .rcases Aa1.mp j with z | z
   .exact absurd z e6
   .rcases Aa1.mp z with z | z
    .first | exact z▸n2 | exact z▸n4
    .exfalso
     obtain⟨o',e',Y⟩:=r s z;obtain⟨sl,q⟩:=ks s o' e' z;rw[e7]at q;have q:=Ab4 q;subst q;exact Y X e8
  .first
    | (cases q:h0.get? s with
     | none=>rfl
     | some o=>
      obtain⟨o',F⟩:=M s o q;rw[PySem.W.hideAll_get _ F j]at U;cases U)
    | (cases q:H s with
     | none=>rfl
     | some u=>
      obtain⟨o',F⟩:=X9 (J s u q);rw[PySem.W.hideAll_get _ F j]at U;cases U)
end
section
variable {P:Program}{w:World}{M:Model}{A A':Around}{E E':Dz}{s:Shared}{H:Hp}{h0 base:Heap}{env:Env}{outer:List Env}{L x:Addr}{cls:Value}{Q:Unit->Shared->Prop}
theorem cZ6 (J:A.frames=some (env::outer))(hf:env.frame=some L)(hl:s.heap.FunFrames base (env::outer))(F:Fly h0 H x cls s.heap)(R:∀b o,h0.get? b=some o->∃o',s.heap.get? b=some o')(N:HOk P w H s.heap)
  (hQ:∀(h2:Heap) (B:AL),(∀b∈B,h0.get? b=none/\H b=none)->Mv (frs (env::outer)) B s.heap h2->Fly h0 H x cls h2->Q () {s with heap:=h2}) :
  wpAny M A (noteFrame (.ref x) env) (λ_ s2=>wpAny M A (setFlight (.ref x) none) Q E s2) E s:=by
 obtain⟨a0,oe,vs,T,oT,ts,n1,n2,n3,n4,hx,hc,hd,h1,X,hT,U,h3⟩:=F;refine wpAny_looks_onW (base:=PySem.W.hideAll s.heap (x::T::frs (env::outer))) (cls:=cls) (a0:=a0) J hf ⟨λb o e=>PySem.W.of_hideAll _ e,PySem.W.hideAll_none _ (Al ..),k4 hl λb hb=>Ad4 _ (Ad4 _ hb),oe,vs,T,oT,ts,hx,hc,hd,h1,PySem.W.hideAll_none _ (Ad4 _ (Al ..)),X,hT,U,h3⟩ λh4 hh j=>?_
 refine wpAny_landsW hh λh5 r Y=>?_
 obtain⟨mv,F2⟩:=cK2 (P:=P) (w:=w) hl R N n1 n2 n3 n4 r.1 r.2.2.2 (j.trans Y);refine hQ h5 [x,T] (λb hb=>?_) mv F2
 rcases Aa1.mp hb with rfl | hb
 .exact⟨n1,n3⟩
 .rw[Ad8.mp hb];exact⟨n2,n4⟩
theorem dB2 (N:s.heap.FunFrames base (env::outer))(F:Fly h0 H x cls s.heap)(U:∀b o,h0.get? b=some o->∃o',s.heap.get? b=some o')(X:HOk P w H s.heap)
  (hQ:∀(h2:Heap) (B:AL),(∀b∈B,h0.get? b=none/\H b=none)->Mv (frs (env::outer)) B s.heap h2->Fly h0 H x cls h2->Q () {s with heap:=h2}) :
  wpAny M A (setFlight (.ref x) none) Q E s:=by
 obtain⟨a0,oe,vs,T,oT,ts,R,n2,n3,n4,hx,hc,hd,h1,j,hT,Y,h3⟩:=F;refine lands_againW (base:=PySem.W.hideAll s.heap (x::T::frs (env::outer))) (l:=env::outer) (cls:=cls) (a0:=a0) ⟨λb o e=>PySem.W.of_hideAll _ e,PySem.W.hideAll_none _ (Al ..),k4 N λb hb=>Ad4 _ (Ad4 _ hb),oe,vs,T,oT,ts,hx,hc,hd,h1,PySem.W.hideAll_none _ (Ad4 _ (Al ..)),j,hT,Y,h3⟩ λh5 r J=>?_
 obtain⟨mv,F2⟩:=cK2 (P:=P) (w:=w) N U X R n2 n3 n4 r.1 r.2.2.2 J;refine hQ h5 [x,T] (λb hb=>?_) mv F2
 rcases Aa1.mp hb with rfl | hb
 .exact⟨R,n3⟩
 .rw[Ad8.mp hb];exact⟨n2,n4⟩
end
def Dx (h:Heap)(x:Addr)(d:AK):Prop:=∃o,h.get? x=some o/\o.dict=d
theorem cV4 {h:Heap}{x:Addr}{o:Obj}(e:h.get? x=some o):h.objs[x]? = some o:=by
 unfold Heap.get? at e;split at e
 .cases e
 .exact e
theorem Dx.keep (D:Dx h x d)(k:Kd h h')(t:∃o,h'.get? x=some o):Dx h' x d:=by
 obtain⟨o,e,rfl⟩:=D;obtain⟨j,e'⟩:=t;obtain⟨s,w,r⟩:=k x o (cV4 e);rw[cV4 e']at w;cases w;exact⟨j,e',r⟩
theorem Fly.there (F:Fly h0 H x cls h):∃o,h.get? x=some o:=by
 obtain⟨r,w,vs,T,U,ts,j,s,Y,X,e,_⟩:=F;exact⟨w,e⟩
section
variable {P:Program}{w:World}{M:Model}{A:Around}{E:Dz}{s:Shared}{H:Hp}{h0 base:Heap}{env:Env}{outer:List Env}{L x:Addr}{cls:Value}{d:AK}{Q:Unit->Shared->Prop}
theorem cF7 (r:A.frames=some (env::outer))(J:env.frame=some L)(N:s.heap.FunFrames base (env::outer))(F:Fly h0 H x cls s.heap)(D:Dx s.heap x d)(Y:∀b o,h0.get? b=some o->∃o',s.heap.get? b=some o')(j:HOk P w H s.heap)
  (U:∀(h2:Heap) (B:AL),(∀b∈B,h0.get? b=none/\H b=none)->(∀b o,s.heap.get? b=some o->b∉frs (env::outer)->b∉B->h2.get? b=some o)->(∀b o,s.heap.get? b=some o->b∈frs (env::outer)->∃sl,h2.get? b=some {o with slots:=sl})->Fly h0 H x cls h2->Dx h2 x d->Q () {s with heap:=h2}) :
  wpAny M A (leaving env (.ref x)) Q E s:=by
 have f:=cQ8 (M:=M) (E:=E) (P:=P) (w:=w) (Q:=λ_ X=>∃h2 B,X={s with heap:=h2}/\(∀b∈B,h0.get? b=none/\H b=none)/\(∀b o,s.heap.get? b=some o->b∉frs (env::outer)->b∉B->h2.get? b=some o)/\(∀b o,s.heap.get? b=some o->b∈frs (env::outer)->∃sl,h2.get? b=some {o with slots:=sl})/\Fly h0 H x cls h2) r J N F Y j λh2 B a b c e=>⟨h2,B,rfl,a,b,c,e⟩
 refine wpAny_mono (aD5 (aG4 env (.ref x)) f) (λ_ X z=>?_) λ_ _ z=>z.1
 obtain⟨⟨h2,B,rfl,a,b,c,e⟩,k⟩:=z;exact U h2 B a b c e (D.keep k e.there)
theorem cQ4 (X:s.heap.FunFrames base (env::outer))(F:Fly h0 H x cls s.heap)(D:Dx s.heap x d)(r:∀b o,h0.get? b=some o->∃o',s.heap.get? b=some o')(e:HOk P w H s.heap)
  (Y:∀(h2:Heap) (B:AL),(∀b∈B,h0.get? b=none/\H b=none)->Mv (frs (env::outer)) B s.heap h2->Fly h0 H x cls h2->Dx h2 x d->Q () {s with heap:=h2}) :
  wpAny M A (setFlight (.ref x) none) Q E s:=by
 have f:=dB2 (M:=M) (E:=E) (A:=A) (P:=P) (w:=w) (Q:=λ_ j=>∃h2 B,j={s with heap:=h2}/\(∀b∈B,h0.get? b=none/\H b=none)/\Mv (frs (env::outer)) B s.heap h2/\Fly h0 H x cls h2) X F r e λh2 B a b c=>⟨h2,B,rfl,a,b,c⟩
 refine wpAny_mono (aD5 (u9 (.ref x) none) f) (λ_ j z=>?_) λ_ _ z=>z.1
 obtain⟨⟨h2,B,rfl,a,b,c⟩,k⟩:=z;exact Y h2 B a b c (D.keep k c.there)
theorem cM9 (e:A.frames=some (env::outer))(U:env.frame=some L)(J:s.heap.FunFrames base (env::outer))(F:Fly h0 H x cls s.heap)(D:Dx s.heap x d)(j:∀b o,h0.get? b=some o->∃o',s.heap.get? b=some o')(r:HOk P w H s.heap)
  (X:∀(h2:Heap) (B:AL),(∀b∈B,h0.get? b=none/\H b=none)->Mv (frs (env::outer)) B s.heap h2->Fly h0 H x cls h2->Dx h2 x d->Q () {s with heap:=h2}) :
  wpAny M A (noteFrame (.ref x) env) (λ_ s2=>wpAny M A (setFlight (.ref x) none) Q E s2) E s:=by
 have f:=cZ6 (M:=M) (E:=E) (P:=P) (w:=w) (Q:=λ_ Y=>∃h2 B,Y={s with heap:=h2}/\(∀b∈B,h0.get? b=none/\H b=none)/\Mv (frs (env::outer)) B s.heap h2/\Fly h0 H x cls h2) e U J F j r λh2 B a b c=>⟨h2,B,rfl,a,b,c⟩
 refine wpAny_mono (aD5 (bU9 env (.ref x)) f) (λ_ s2 z=>?_) λ_ _ z=>z.1
 refine wpAny_mono (aD5 (u9 (.ref x) none) z.1) (λ_ Y y=>?_) λ_ _ y=>y.1
 obtain⟨⟨h2,B,rfl,a,b,c⟩,k⟩:=y;exact X h2 B a b c (D.keep (z.2.tr k) c.there)
end
def CXd (P:Program)(w:World):CXT:=λouter H s E e s'=>
 ∃x cls H' d,e=.ref x/\s'.os=s.os/\AllBare s'.gens/\Un (frs outer) [] H H' s.heap s'.heap/\HOk P w H' s'.heap/\Fly s.heap H' x cls s'.heap/\Dx s'.heap x d/\E cls d H'
section
variable {P:Program}{w:World}{M:Model}{A:Around}{E:Dz}{s:Shared}{H:Hp}{h0 base:Heap}{env:Env}{outer:List Env}{L x:Addr}{cls:Value}{Q:Unit->Shared->Prop}
theorem dC2 (r:A.frames=some (env::outer))(N:env.frame=some L)(R:h.FunFrames base (env::outer))(X:Heap.MadeExcOf h s.heap x cls args)(Y:∀b o,h0.get? b=some o->∃o',h.get? b=some o')(j:HOk P w H h)
  (J:∀(h2:Heap),(∀b o,h.get? b=some o->b∉frs (env::outer)->h2.get? b=some o)->(∀b o,h.get? b=some o->b∈frs (env::outer)->∃sl,h2.get? b=some {o with slots:=sl})->Fly h0 H x cls h2->Dx h2 x none->Q () {s with heap:=h2}) :
  wpAny M A (leaving env (.ref x)) Q E s:=by
 have D:Dx s.heap x none:=by obtain⟨t,e,_⟩:=X.there;exact⟨_,e,rfl⟩
 have f:=dK6 (M:=M) (E:=E) (P:=P) (w:=w) (h0:=h0) (Q:=λ_ U=>∃h2,U={s with heap:=h2}/\(∀b o,h.get? b=some o->b∉frs (env::outer)->h2.get? b=some o)/\(∀b o,h.get? b=some o->b∈frs (env::outer)->∃sl,h2.get? b=some {o with slots:=sl})/\Fly h0 H x cls h2) r N R X Y j λh2 b c e=>⟨h2,rfl,b,c,e⟩
 refine wpAny_mono (aD5 (aG4 env (.ref x)) f) (λ_ U z=>?_) λ_ _ z=>z.1
 obtain⟨⟨h2,rfl,b,c,e⟩,k⟩:=z;exact J h2 b c e (D.keep k e.there)
end
section
variable {P:Program}{w:World}{K:Frag}{mg:Str->Option Value}{base:Heap}{N:AH}{qual:Str}{scope:Scope}{f:Addr}{cd:Value}{A:Around}{outer:List Env}{s:Shared}{H:Hp}{E:XK}
theorem cN9 {bA:Eb}{σ:St}{H1:Hp}{s1:Shared}{h2:Heap}{g:Array GenState}{dr:Drawn}{tk:Nat}{B:AL}{x:Addr}{cls:Value}(I:Inv (bA5 (CXd P w) P w K mg base N qual scope f cd A outer s H E) bA σ H1 s1)(j:∀b∈B,s.heap.get? b=none/\H1 b=none)
  (k:∀b o,s1.heap.get? b=some o->b∉frs (envOfC qual scope s.heap.objs.size f cd::outer)->b∉B->h2.get? b=some o) (ks:∀b o,s1.heap.get? b=some o->b∈frs (envOfC qual scope s.heap.objs.size f cd::outer)->∃sl,h2.get? b=some {o with slots:=sl})
  (F:Fly s.heap H1 x cls h2) {dx:AK} (D:Dx h2 x dx) (q:E cls dx H1) (U:AllBare g):CXd P w outer H s E (.ref x) {s1 with heap:=h2,gens:=g,drawn:=dr,toks:=tk}:=by
 have r:frs (envOfC qual scope s.heap.objs.size f cd::outer)=s.heap.objs.size::frs outer:=dR6 rfl
 have Y:s.heap.get? s.heap.objs.size=none:=Heap.get?_none_of_le (Aa7 _)
 have X:Un (frs outer) [] H H1 s.heap s1.heap:=I.base
 rw[r]at k ks;refine⟨x,cls,H1,dx,rfl,I.os,U,dS1 (B:=s.heap.objs.size::B) X (λb hm=>?_) (λb o e h1 h2=>?_) (λb o e h1=>ks b o e (Ad4 _ h1)),cR6 (fs:=s.heap.objs.size::frs outer) (B:=B) I.hok (λb hm=>?_) (λb hm=>(j b hm).2) k,F,D,q⟩
 .rcases Aa1.mp hm with rfl | hm
  .exact Y
  .exact(j b hm).1
 .refine k b o e (λz=>?_) λz=>h2 (Ad4 _ z)
  rcases Aa1.mp z with rfl | z
  .exact h2 (Al ..)
  .exact h1 z
 .exact I.stkFree b (by show b∈frs (envOfC qual scope s.heap.objs.size f cd::outer);rw[r];exact hm)
theorem bX5:w6 (CXd P w) (bA5 (CXd P w) P w K mg base N qual scope f cd A outer s H E) E:=by
 intro bA σ H1 s1 e s' I hc;obtain⟨x,R,H',dx,rfl,os,j,un,Y,F,D,q⟩:=hc;obtain⟨U,g,d,t,os'⟩:=s';obtain rfl:os'=s1.os:=os;have J:=I.call (h':=U) (g':=g) (d':=d) (t':=t) (ch:=[]) un Y j (λb z=>absurd z (by simp))
 have Q:∀b o,s.heap.get? b=some o->∃M,s1.heap.get? b=some M:=λb o e=>I.base.there b o e (by exact λz=>absurd (show b∈([]:AL) from z) (by simp))
 have X:∀b o,s.heap.get? b=some o->∃M,U.get? b=some M:=λb o e=>J.base.there b o e (by exact λz=>absurd (show b∈([]:AL) from z) (by simp))
 have no:∀b,s1.heap.get? b=none->s.heap.get? b=none:=λb e=>by
  cases q:s.heap.get? b with
  | none=>rfl
  | some o=>obtain⟨M,q'⟩:=Q b o q;rw[e]at q';cases q'
 have F':Fly s.heap H' x R U:=by
  obtain⟨a0,oe,vs,T,oT,ts,n1,n2,r⟩:=F;exact⟨a0,oe,vs,T,oT,ts,no _ n1,no _ n2,r⟩
 exact cF7 (P:=P) (w:=w) (H:=H') (h0:=s.heap) (base:=base) J.ok.frames rfl J.stack F' D X Y λh2 B hB k ks F2 D2=>cN9 (s1:=⟨U,g,d,t,s1.os⟩) J hB k ks F2 D2 q j
theorem bZ2:∀(bA:Eb) (σ:St) (r:Hp) (s1:Shared) (h':Heap) (y:Addr) (vs:AG),Inv (bA5 (CXd P w) P w K mg base N qual scope f cd A outer s H E) bA σ r s1->Heap.MadeExcOf s1.heap h' y cls vs->E cls none r->(bA5 (CXd P w) P w K mg base N qual scope f cd A outer s H E).xe (.ref y) {s1 with heap:=h'}:=by
 intro bA σ r s1 h' y vs I J q;have Y:∀b o,s.heap.get? b=some o->∃R,s1.heap.get? b=some R:=λb o e=>I.base.there b o e (by exact λz=>absurd (show b∈([]:AL) from z) (by simp))
 exact dC2 (P:=P) (w:=w) (H:=r) (h0:=s.heap) (base:=base) (h:=s1.heap) (s:={s1 with heap:=h'}) I.ok.frames rfl I.stack J Y I.hok λQ k M U X=>cN9 (B:=[]) (s1:=s1) I (λb j=>absurd j (by simp)) (λb o e j _=>k b o e j) M U X q I.bare
theorem Fun.okD {x qual:Str}{st:Stmt}{f:Addr}{fd:FuncData}{N ps:AH}{k:Nat}{sp:Sp}(F:Fun K x qual st f fd)(S:B8 N ps (A9 st))(Y:∀vs H Q E,sp vs H Q E->vs.length=ps.length)
  (e:∀(cdv:Value) (A:Around) (outer:List Env) (s:Shared) (H:Hp) (vs:List V) (Q:VK) (E:XK),Room k (A.deeper (envOfC qual (A9 st) s.heap.objs.size f cdv))->sp vs H Q E ->
   ∃t,PSs (bA5 (CXd P w) P w K mg base N qual (A9 st) f cdv A outer s H E) (Z6 st) t/\t {nx:=λ_ H'=>Q .non H',rt:=Q} (Y6 N vs) H):FnOk P w K mg base (CXd P w) (k+1) f fd ps sp:=by
 obtain⟨R,B,kV,X,pm,an,cdv,M,J,rfl,lk,r⟩:=F.ex;exact eD4 lk r S Y λA outer s H vs Q E U j=>e cdv A outer s H vs Q E U j
end
abbrev Cx.markd (X:Cx)(e:Value):Cx:={X with A:=X.A.mark (some e),calm:=false,xe:=λ_ _=>False}
theorem Inv.markd (I:Inv X bA σ H s)(e:Value):Inv (X.markd e) bA σ H s:=
 ⟨⟨I.ok.mod,I.ok.kind,I.ok.glob,I.ok.blt,I.ok.above,I.ok.inj,I.ok.has,I.ok.cab,(λz=>nomatch z),I.ok.frames,I.ok.stk,I.ok.exf,I.ok.bs,I.ok.bsz,I.ok.noex,I.ok.exfs,I.ok.funs,I.ok.frf⟩,I.os,I.bare,I.base,I.loc,I.cell,I.free,I.freeC,I.pin,I.hok,I.len⟩
theorem Inv.unmark (ok:X.Ok)(I:Inv (X.markd e) bA σ H s):Inv X bA σ H s:=
 ⟨ok,I.os,I.bare,I.base,I.loc,I.cell,I.free,I.freeC,I.pin,I.hok,I.len⟩
section
variable {X:Cx}{bA:Eb}{σ:St}{H:Hp}{s:Shared}{h':Heap}
theorem Inv.unbind (I:Inv X bA σ H s)(hN:X.N.Nodup)(hj:X.N[j]? = some y)(hn:s.heap.Ns X.env.locals m)(hl:∀(i:Nat) (x:Str) (v:V),X.N[i]? = some x->σ[i]? = some (some v)->Vis X.env.scope x->∃u,RelV v u/\eU5 X.env s.heap m x u)
  (B:h'.Ns X.env.locals λx=>if x=y then v else m x) (U:Heap.SameBut X.env.locals s.heap h'):Inv X bA (σ.set j none) H {s with heap:=h',toks:=t'}:=by
 have cne:=I.cne
 obtain⟨oL,_,_,hoL,_⟩:=id hn;have r:HOk X.prog X.w H h':=λb ob e=>by
  refine(I.hok b ob e).stay (λc w' hc q=>(U.2 c ?_).trans q) (λ_ q=>q) λ_ _ q=>q
  rintro rfl;rcases hc with rfl | hc
  .rw[I.free]at e;cases e
  .rw[I.free]at hc;cases hc
 refine⟨I.ok,I.os,I.bare,⟨λb o e n Q R=>?_,λb o e n Q R=>?_,I.base.free,λb o e R=>?_,I.base.tups,I.base.frzs,I.base.tbls⟩,⟨_,B,λi x v' Y J e3=>?_⟩,λy c e=>?_,I.free,I.freeC,λp hp=>?_,r,by simpa using I.len⟩
 .exact(U.2 b (Ab9 (Ab8 (Ab3 e) I.ok.above))).trans (I.base.keep b o e n Q R)
 .obtain⟨sl,Y⟩:=I.base.slot b o e n Q R;exact⟨sl,(U.2 b (Ab9 (Ab8 (Ab3 e) I.ok.above))).trans Y⟩
 .obtain⟨o',Y⟩:=I.base.there b o e R;exact⟨o',(U.2 b (Ab9 (Ab8 (Ab3 e) I.ok.above))).trans Y⟩
 .have M:i≠j:=λz=>by
   subst z;by_cases hi:i<σ.length
   .rw[Ai hi]at J;cases J
   .rw[Ad6 (by simpa using hi)]at J;cases J
  rw[Ad0 (Ne.symm M)]at J;obtain⟨u',r',q⟩:=hl i x v' Y J e3;refine⟨u',r',?_⟩;rcases q with⟨k,e⟩ | ⟨k,c,e,z⟩
  .refine .inl ⟨k,?_⟩
   have:x≠y:=λz=>M (by
    subst z;exact(List.getElem?_inj (Ab0.mp Y).1 hN).mp (Y.trans hj.symm))
   show(if x=y then v else m x)=some u'
   rw[Ab this];exact e
  .refine .inr ⟨k,c,e,?_⟩;obtain⟨o,ho,F⟩:=z;exact⟨o,(U.2 c (cne x c e)).trans ho,F⟩
 .obtain⟨v,o,ho,F⟩:=I.cell y c e;exact⟨v,o,(U.2 c (cne y c e)).trans ho,F⟩
 .obtain⟨q1,q2,P,q4⟩:=I.pin p hp;exact⟨(U.2 p.1 P).trans q1,q2,P,q4⟩
end
def subIn (K:Frag)(C:Addr)(v:Value):Bool:=match K.lookup C with
 | some ⟨_,_,.cls cd,_⟩=>cd.mro.contains v
 | _=>false
theorem bU0 {K:Frag}{h:Heap}{C:Addr}{v:Value}{bm:AG}{nm qn:Str}{N:Addr}{bs:AG}{hdct:Bool}{sn:AH}{sub:AG}{ab:Bool}{col:Option Bool}{dd:AK}{k0 k1 k2 k3 k5:Option Value}{newId:String}(X:K.In h)(e:h.get? C=some (excClassObj nm qn C N bs bm hdct sn sub ab col dd k0 k1 k2 k3 k5 newId))(q:subIn K C v=true):(Value.ref C::bm).contains v=true:=by
 unfold subIn at q;split at q
 .rename_i ho
  have:=X _ _ ho
  rw[e]at this;cases this;exact q
 .cases q
theorem dW0 (e:h.get? x=some o)(U:o.cls=.ref C)(J:o.data=.fields vs)(M:o.dict=d):ObjOk P w H h x (excD x C d):=
 ⟨⟨o,vs,e,U,J,M⟩,⟨o,e⟩,λh1 R ⟨N,r,j,s,Y,X⟩ k=>⟨N,r,k _ j,s,Y,X⟩⟩
def cF2 (K:Frag)(C:Addr):Prop:=∀h:Heap,K.In h->∃bm N nm qn bs hdct sn sub ab col dd k0 k1 k2 k3 k5,h.get? C=some (excClassObj nm qn C N bs bm hdct sn sub ab col dd k0 k1 k2 k3 k5 "ValueError.__new__")/\OwnTail h bmV bm
def dP3 (X:Cx)(bA:Eb)(σ:St)(EX:XK)(e:Value)(s':Shared):Prop:=∃s0 H0,Inv X bA σ H0 s0/\CXd X.prog X.w X.stack H0 s0 EX e s'
structure PBd (X:Cx)(body:List Stmt)(t:XK->TS):Prop where
 run:∀(bA:Eb) (s:Shared) (σ:St) (H:Hp) (D:bF7) (EX:XK),Inv X bA σ H s->t EX D σ H->wpAny (model X.prog X.w) X.A (execs body X.env) (SP X bA D) (dP3 X bA σ EX) s
section
variable {X:Cx}{k:Nat}{f:Addr}{fd:FuncData}{ps:AH}{sp:Sp}{dvs:List V}{ds:AG}{x:Str}{p pos:Pos}{e:Expr}{es:AM}{t:TA}
theorem eH8 (N:PT X.nox c tc)(J:PBd X a ta)(M:PBd X b tb):PBd X [.If c a b apos] λEX=>bN3 tc (ta EX) (tb EX):=by
 refine⟨λw s σ H D EX I h=>?_⟩
 refine wpAny_execs_cons (wpAny_mono (wpAny_If (Q:=SP X w D) (wpAny_mono (N w s σ H _ (I.wish _) h) (λd r ⟨j,Y,U⟩=>?_) λ_ _ z=>False.elim z)) (λfl r q=>?_) λ_ _ z=>z)
 .cases d with
  | true=>exact wpAny_mono (J.run w r σ j D EX Y.unwish U) (λ_ _ q=>q) λ_ _ z=>z
  | false=>exact wpAny_mono (M.run w r σ j D EX Y.unwish U) (λ_ _ q=>q) λ_ _ z=>z
 .cases fl with
  | next=>exact wpAny_execs_nil q
  | ret v=>exact q
  | brk=>exact q
  | cont=>exact q
end
def aC3 (x C:Addr)(d:AK):HO:=.ext λh=>∃t0 sl,h.get? x=some ⟨.ref C,d,.fields #[.ref t0,.none,.none,.none,.bool false,.none],sl⟩
theorem bK1 (e:h.get? x=some ⟨.ref C,d,.fields #[.ref t0,.none,.none,.none,.bool false,.none],sl⟩):ObjOk P w H h x (aC3 x C d):=
 ⟨⟨t0,sl,e⟩,⟨_,e⟩,λh1 j ⟨a,b,r⟩ k=>⟨a,b,k _ r⟩⟩
theorem eF5 (e:H x=some o):upd H x o=H:=by
 funext b
 by_cases c:b=x
 .subst c;rw[C4,e]
 .rw[B6 c]
section
variable {X:Cx}{initId:String}
def rXb (K:Frag)(xs:List V)(H:Hp)(Q:VK):Prop:=∃x C d vs,xs=.ref x::vs/\H x=some (aC3 x C d)/\cF2 K C/\vs.length<=1000/\Q .non H
theorem cO4 (F:ExcBaseFacts "ValueError" "ValueError.__new__" initId bmV)(K:Frag)(R:X.K=K:=by rfl):m6 X (.builtin initId) (rXb K):=by
 subst R;intro bA s σ H xs us Q I r h;obtain⟨x,C,d,vs,rfl,j,M,hl,q⟩:=h;cases r with
 | cons r1 r2=>
  cases r1
  obtain⟨t0,sl,P⟩:=(I.hok x _ j).1;obtain⟨bm,N,nm,qn,bs,U,sn,sub,ab,J,dd,k0,k1,k2,k3,k5,o1,o4⟩:=M _ I.kIn;obtain⟨hp,g,dr,tk,os⟩:=s;refine dG0 F o4 o1 P (by have:=r2.length;unfold sizeLine;lia) λh' kp Y e2 _=>⟨.non,H,?_,rfl,q⟩
  have w:=I.write (x:=x) (e:=x) (o:=aC3 x C d) (t':=tk) (h':=h') (by rw[j];trivial) (.inl rfl) (λb u B e=>kp b u B e) ⟨_,Y⟩ (bK1 Y)
  rw[eF5 j]at w;exact w
end
section
variable {X:Cx}{initId:String}{x:Str}{Tb:Addr}{e:Expr}{es:AM}{t:TA}{np apos pos:Pos}{pl:Sem Bool}
theorem cN8 (F:ExcBaseFacts "ValueError" "ValueError.__new__" initId bmV)(K:Frag)(B:Gl X x)(P:X.mg x=some (.ref Tb))(c:dT4 X.K Tb initId)(R:PA X (e::es) t)(N:X.K=K:=by rfl)(r:(x==("__debug__" : Str))=false:=by decide)
  (Y:starEach (e::es) X.env=(false,eval e X.env)::starEach es X.env:=by rfl) (j:(backTo pos (starEach es X.env)).any (·.1)=false:=by rfl)
  (ht:eval (.Call (.Attribute (.Name x np) "__init__" apos) (e::es) [] pos) X.env=(do
   let ov <- eval (.Name x np) X.env
   standAt apos.atName
   let (f,first) <- holding [ov] (getMethod ov "__init__" pl)
   callWith pos f first (backTo pos (starEach (e::es) X.env)) (backToKw pos (keywordEach [] X.env))):=by rfl) :
  PE X (.Call (.Attribute (.Name x np) "__init__" apos) (e::es) [] pos) (tCB (rXb K) t):=by
 subst N;refine⟨?_⟩;intro w s σ H Q I h;refine PySem.W.methodCall_KW (pl:=pl) (Z5 I B P ?_ r) ht;refine dE5 I.kIn c ?_;have J:Inv X w σ H {s with toks:=s.toks+1}:=I.tok _
 exact PyProof.Rows.callWith_builtin1 (thn (R pos w _ σ H _ J h) λus s1 ⟨vs,U,M,r1,q1⟩=>cO4 F X.K rfl w s1 σ U vs us Q M r1 q1) Y j
def sXf (K:Frag)(ta tv:TE)(f:Str):TS:=λD σ H=>tv σ H λy H1=>ta σ H1 λx H2=>∃a C cd,x=.ref a/\H2 a=some (aC3 a C none)/\eL2 K C cd/\PySem.W.findIn K (.ref C) f=some none /\
 ∀dx,H2 dx=none->dx≠a->D.nx σ (upd (upd H2 dx (.xd [(f,y)])) a (aC3 a C (some dx)))
theorem eA0 (ha:PE X o ta)(hv:PE X value tv)(hs:swapsWith value (some (.Attribute o f pos')) pos.line X.env=pure false:=by rfl):PS X (.Assign [.Attribute o f pos'] value pos) (sXf X.K ta tv f):=by
 refine⟨?_⟩;intro U s σ H D I h;refine plainObj_wpAny_Assign_Attribute (thn (hv U s σ H _ I h) λu s1 ⟨y,H1,I1,ry,q⟩=>thn (ha U s1 σ H1 _ I1 q) λov w ⟨z,R,Y,rx,a,C,cd,ez,B,c,n,q2⟩=>?_) hs
 subst ez;obtain rfl:ov=Value.ref a:=rx;obtain⟨t0,sl,P⟩:=(Y.hok a _ B).1;have na:w.heap.objs.size≠a:=λz=>absurd (Ab3 P) (by rw[z];exact Ad9 _)
 have hn:R w.heap.objs.size=none:=Y.hok.fresh (Aa7 _)
 refine dP9 Y.kIn c P n λh' Q ns kp=>⟨σ,_,?_,q2 w.heap.objs.size hn na⟩
 obtain⟨r,M,J,F,rD⟩:=id ns;have hl:∀b u,w.heap.get? b=some u->(w.heap.push r).get? b=some u:=λb u e=>Aa6 _ e
 have nf:(w.heap.push r).get? w.heap.objs.size=some r:=by
  refine Heap.get?_push_at rfl ?_;exact(Heap.get?_some_iff.mp F).2
 have N:(w.heap.push r).Ns1 w.heap.objs.size (λz=>if z=f then some u else none):=⟨r,M,J,nf,rD⟩
 have J1:Inv X U σ (upd R w.heap.objs.size (.xd [(f,y)])) {w with heap:=w.heap.push r,toks:=w.toks}:=Y.laid hl (Aa7 _) ⟨_,N,λg=>by
  show RelO (List.lookup g [(f,y)]) (if g=f then some u else none)
  by_cases q:g=f
  .subst q;rw[Ac rfl];simp only[List.lookup_cons,beq_self_eq_true];exact ry
  .rw[Ab q]
   have:(g==f)=false:=by simpa using q
   simp only[List.lookup_cons,this,List.lookup_nil];trivial⟩
 refine J1.write (x:=a) (e:=a) (h':=h') (t':=w.toks+2) (by rw[B6 (Ne.symm na),B];trivial) (.inl rfl) (λb v hb e=>?_) ⟨_,Q⟩ (bK1 Q)
 by_cases j:b=w.heap.objs.size
 .subst j;rw[nf]at e;cases e;exact F
 .have:w.heap.get? b=some v:=by
   exact(Heap.get?_push_ne _ _ _ j).symm.trans e
  exact kp b v hb this
end
def XMk (K:Frag)(C f:Addr):Prop:=∀h:Heap,K.In h->∃bm N nm qn bs hdct sn sub ab col dd k0 k1 k2 k3 k5 mN oI,h.get? C=some (excClassObj nm qn C N bs bm hdct sn sub ab col dd k0 k1 k2 k3 k5 "ValueError.__new__")/\OwnTail h bmV bm/\h.Ns N mN/\mN "__init__" = some (.ref f)/\h.get? f=some oI/\oI.cls=.type "function"
def eC2 (C:Addr)(sp:Sp)(dvs:List V)(E:XK)(t:TA):TE:=λσ H Q=>t σ H λvs H1=>vs.length<=1000/\∀x,H1 x=none->sp (.ref x::(vs++dvs)) (upd H1 x (aC3 x C none)) (λv H2=>v=.non/\Q (.ref x) H2) E
section
variable {X:Cx}{CX:CXT}{C f:Addr}{k:Nat}{fd:FuncData}{ps:AH}{sp:Sp}{dvs:List V}{ds:AG}{E:XK}{x:Str}{p pos:Pos}{e:Expr}{es:AM}{t:TA}
theorem dX5 (M:XMk X.K C f)(F:FnOk X.prog X.w X.K X.mg X.base CX k f fd ps sp)(hr:Room (k+1) X.A)(hb:Binds X.K fd ps ds)(hd:Vals dvs ds)
  (hx:w6 CX X E) (I:Inv X bA σ H s) (r:Vals vs us) (hv:vs.length<=1000) (h:∀x,H x=none->sp (.ref x::(vs++dvs)) (upd H x (aC3 x C none)) (λv H2=>v=.non/\Q (.ref x) H2) E) :
  wpAny (model X.prog X.w) X.A (call (.ref C) us) (EP X bA σ Q) X.xe s:=by
 obtain⟨bm,N,nm,qn,bs,J,sn,sub,ab,col,dd,k0,k1,k2,k3,k5,mN,oI,o1,o2,o3,o4,o5,o6⟩:=M _ I.kIn;obtain⟨hp,g,d,tk,os⟩:=s;have R:=r.length;refine bV1 PySem.F.excBase_ValueError (by decide) PySem.F.excBase_ValueError o2 o1 o3 o4 o5 o6 (by unfold sizeLine;lia) λh' up at1 U sz=>?_
 have B:=h (hp.objs.size+1) (I.hok.fresh (Nat.le_succ _))
 have Y:Inv X bA σ (upd H (hp.objs.size+1) (aC3 (hp.objs.size+1) C none)) ⟨h',g,d,tk,os⟩:=I.laid (a:=hp.objs.size+1) (t':=tk) (h':=h') up (Nat.le_succ _) (bK1 (sl := #[]) U)
 have P:Vals (V.ref (hp.objs.size+1)::(vs++dvs)) (Value.ref (hp.objs.size+1)::(us++ds)):=.cons rfl (r.append hd)
 have hl:(Value.ref (hp.objs.size+1)::us++ds).length=ps.length:=by
  have e:=P.length
  rw[F.len _ _ _ _ B]at e;exact e.symm
 refine wpAny_call (codeAny_mono (F.run _ X.stack _ _ ⟨Value.ref (hp.objs.size+1)::us,[]⟩ (Value.ref (hp.objs.size+1)::(us++ds)) _ _ E (hr.make C us []) (Y.env0.make C us []) (hb _ (Value.ref (hp.objs.size+1)::us) Y.kIn hl) P B) λr s' j=>?_)
 cases r with
 | error e=>exact hx bA σ _ _ e s' Y j
 | ok fl=>
  cases fl with
  | ret u=>
   obtain⟨v,H',I3,rv,ev,q3⟩:=Y.after j;subst ev;exact⟨rv,⟨V.ref (hp.objs.size+1),H',I3,rfl,q3⟩⟩
  | next=>exact False.elim j
  | brk=>exact False.elim j
  | cont=>exact False.elim j
theorem eA5 (M:XMk X.K C f)(kp:PySem.W.keepIn X.K (.ref C)=true)(F:FnOk X.prog X.w X.K X.mg X.base CX k f fd ps sp)(hr:Room (k+1) X.A)(hg:Gl X x)(hm:X.mg x=some (.ref C))(R:Binds X.K fd ps ds)(B:Vals dvs ds)(hx:w6 CX X E)
  (N:PA X (e::es) t) (j:(x==("__debug__" : Str))=false:=by decide) (P:starEach (e::es) X.env=(false,eval e X.env)::starEach es X.env:=by rfl) (Y:(backTo pos (starEach es X.env)).any (·.1)=false:=by rfl) :
  PE X (.Call (.Name x p) (e::es) [] pos) (eC2 C sp dvs E t):=by
 refine⟨?_⟩;intro J s σ H Q I h;refine wpAny_Call_Name_kw (Z5 I hg hm ?_ j);refine PySem.W.callWith_K (h₀:=X.base) I.ok.mod.kin kp (thn (N pos J s σ H _ I h) λus s1 ⟨vs,H1,U,r,hv,q⟩=>⟨U.kIn,?_⟩) P Y
 exact dX5 M F hr R B hx U r hv q
end
section
variable {M:Model}{A:Around}{E:Dz}{s:Shared}{env:Env}
variable {nm q:Str}{C N:Addr}{bs bm:AG}{hdct:Bool}{sn:AH}{sub:AG}{ab:Bool}{col:Option Bool}{dd:AK}{k0 k1 k2 k3 k5:Option Value}{newId:String}
theorem dC5 (X:A.handled=none)
  (h:wpAny M A x (λv s1=>∃(nm q:Str) (C N:Addr) (bs bm:AG) (hdct:Bool) (sn:AH) (sub:AG) (ab:Bool) (col:Option Bool) (dd:AK) (k0 k1 k2 k3 k5:Option Value) (newId:String) (e t:Addr) (od:AK) (sl:Array (Option Value)),v=.ref e/\bm.contains (.type "BaseException")=true/\s1.heap.get? C=some (excClassObj nm q C N bs bm hdct sn sub ab col dd k0 k1 k2 k3 k5 newId)/\s1.heap.get? e=some ⟨.ref C,od,.fields #[.ref t,.none,.none,.none,.bool false,.none],sl⟩/\E (.ref e) s1) E s) :
  wpAny M A (raiseStmt env (some x) none) Q E s:=by
 unfold raiseStmt;refine Aa (wpAny_mono h (λv s1 z=>?_) λ_ _ z=>z)
 obtain⟨nm,q,C,N,bs,bm,hdct,sn,sub,ab,col,dd,k0,k1,k2,k3,k5,newId,e,t,od,sl,rfl,j,w,Y,r⟩:=z;have U:(Value.ref C::bm).contains (.type "BaseException")=true:=by rw[List.contains_cons,j,Bool.or_true]
 obtain⟨hp,g,d,tk,os⟩:=s1
 repeat (first | wp_step | (with_reducible refine wpAny_isSubtype_exc w ?_;rw[U]) | with_reducible refine wpAny_loadPart_at w ?_ | with_reducible refine wpAny_loadPart_at Y ?_)
 exact wpAny_raiseNew_none X r
end
def drp (H:Hp)(x:Addr):Hp:=λb=>if b=x then none else H b
theorem bM3:drp H x x=none:=Ac rfl
theorem bL6 (h:b≠x):drp H x b=H b:=Ab h
section
variable {P:Program}{w:World}{fs ex:AL}{H H1:Hp}{h h1:Heap}{x C:Addr}{d:AK}
theorem Un.drp (u:Un fs ex H H1 h h1)(e:H1 x=some (aC3 x C d)):Un fs ex H (drp H1 x) h h1:=by
 have r:∀b o,H1 b=some o->(∀φ,o≠.ext φ)->L2.drp H1 x b=some o:=λb o q n=>by
  rw[bL6];exact q;rintro rfl;rw[e]at q;exact n _ (Ab4 q).symm
 refine⟨u.keep,u.slot,λb o q n z=>?_,u.there,λb xs q=>r b _ (u.tups b xs q) (λφ z=>by cases z),λb o v q=>r b _ (u.frzs b o v q) (λφ z=>by cases z),λb ps q=>?_⟩
 .have:=u.free b o q n z
  unfold L2.drp;by_cases c:b=x
  .rw[Ac c]
  .rw[Ab c];exact this
 .obtain⟨j,q⟩:=u.tbls b ps q;exact⟨j,r b _ q (λφ z=>by cases z)⟩
theorem HOk.drp (k:HOk P w H1 h)(e:H1 x=some (aC3 x C d)):HOk P w (drp H1 x) h:=λb o q=>by
 by_cases c:b=x
 .subst c;rw[bM3]at q;cases q
 .rw[bL6 c]at q;have r:∀b o,H1 b=some o->(∀φ,o≠.ext φ)->L2.drp H1 x b=some o:=λb o q n=>by
   rw[bL6];exact q;rintro rfl;rw[e]at q;exact n _ (Ab4 q).symm
  exact(k b o q).stay (λ_ _ _ z=>z) (λj z=>r j _ z (λφ z=>by cases z)) λj xs z=>r j _ z (λφ z=>by cases z)
end
section
variable {P:Program}{w:World}{M:Model}{A:Around}{E:Dz}{s:Shared}{H:Hp}{h0 base:Heap}{env:Env}{outer:List Env}{L x t0:Addr}{cls:Value}{d:AK}{sl0:Array (Option Value)}{Q:Unit->Shared->Prop}
theorem dD0 (N:A.frames=some (env::outer))(hf:env.frame=some L)(hl:s.heap.FunFrames base (env::outer))(n1:h0.get? x=none)(n3:H x=none)(hx:s.heap.get? x=some ⟨cls,d,.fields #[.ref t0,.none,.none,.none,.bool false,.none],sl0⟩)
  (B:∀b o,h0.get? b=some o->∃o',s.heap.get? b=some o') (R:HOk P w H s.heap)
  (hQ:∀h2:Heap,(∀b o,s.heap.get? b=some o->b∉frs (env::outer)->b∉[x]->h2.get? b=some o)->(∀b o,s.heap.get? b=some o->b∈frs (env::outer)->∃sl,h2.get? b=some {o with slots:=sl})->Fly h0 H x cls h2->Dx h2 x d->Q () {s with heap:=h2}) :
  wpAny M A (leaving env (.ref x)) Q E s:=by
 have r:∀b∈frs (env::outer),∃o,s.heap.get? b=some o/\∀vs,o.data≠.fields vs:=λb Y=>(hl.mem Y).2
 have D:Dx s.heap x d:=⟨_,hx,rfl⟩
 have st:wpAny M A (leaving env (.ref x)) (λ_ s'=>∃h2,s'={s with heap:=h2}/\Heap.LeftW (PySem.W.hideAll s.heap (x::frs (env::outer))) (env::outer) x cls (.ref t0) s.heap h2) E s:=
  wpAny_leaving_firstW (oe:=⟨cls,d,.fields #[.ref t0,.none,.none,.none,.bool false,.none],sl0⟩) N (k4 hl λb Y=>Ad4 _ Y) hf hx (λb o e=>PySem.W.of_hideAll _ e) (PySem.W.hideAll_none _ (Al ..)) rfl rfl rfl λh' z=>⟨h',rfl,z⟩
 refine wpAny_mono (aD5 (aG4 env (.ref x)) st) (λ_ s' z=>?_) λ_ _ z=>z.1
 obtain⟨⟨h2,rfl,⟨k1,_,⟨oe',vs',j,oT',J,e1,e2,e3,e4,e5,e6,e7,e8,e9⟩,hup⟩⟩,kd⟩:=z;have ks:∀b o,s.heap.get? b=some o->b∈frs (env::outer)->∃sl,h2.get? b=some {o with slots:=sl}:=λb o e Y=>by
  obtain⟨o',e',X⟩:=r b Y;rw[e]at e';cases e';exact hup b o e X
 have nT:s.heap.get? j=none:=by
  cases q:s.heap.get? j with
  | none=>rfl
  | some o=>
   exfalso
   by_cases Y:j∈x::frs (env::outer)
   .rcases Aa1.mp Y with z | z
    .exact e6 z
    .obtain⟨o',e',X⟩:=r j z;obtain⟨sl,q⟩:=ks j o' e' z;rw[e7]at q;have q:=Ab4 q;subst q;exact X J e8
   .rw[PySem.W.hideAll_get _ q Y]at e5;cases e5
 have F:Fly h0 H x cls h2:=by
  refine⟨_,oe',vs',j,oT',J,n1,?_,n3,?_,e1,e2,e3,e4,e6,e7,e8,e9⟩
  .cases q:h0.get? j with
   | none=>rfl
   | some o=>obtain⟨o',U⟩:=B j o q;rw[nT]at U;cases U
  .cases q:H j with
   | none=>rfl
   | some u=>obtain⟨o',U⟩:=X9 (R j u q);rw[nT]at U;cases U
 refine hQ h2 (λb o e Y hB=>k1 b o (PySem.W.hideAll_get _ e λz=>?_)) ks F (D.keep kd F.there)
 rcases Aa1.mp z with z | z
 .exact hB (by rw[z];simp)
 .exact Y z
end
section
variable {P:Program}{w:World}{K:Frag}{mg:Str->Option Value}{base:Heap}{N:AH}{qual:Str}{scope:Scope}{f:Addr}{cd:Value}{A:Around}{outer:List Env}{s:Shared}{H:Hp}{E:XK}
theorem dV9 (I:Inv (bA5 (CXd P w) P w K mg base N qual scope f cd A outer s H E) bA σ H1 s1)(U:s.heap.objs.size<=y)(e:H1 y=some (aC3 y C (some dx)))(q:E (.ref C) (some dx) (drp H1 y)) :
  (bA5 (CXd P w) P w K mg base N qual scope f cd A outer s H E).xe (.ref y) s1:=by
 have r:∀b o,s.heap.get? b=some o->∃R,s1.heap.get? b=some R:=λb o e=>I.base.there b o e (by exact λz=>absurd (show b∈([]:AL) from z) (by simp))
 obtain⟨t0,sl,X⟩:=(I.hok y _ e).1;have J:=I.un (h':=s1.heap) (t':=s1.toks) (Un.refl.drp e) (I.hok.drp e);have j:s.heap.get? y=none:=Heap.get?_none_of_le U;exact dD0 (P:=P) (w:=w) (H:=drp H1 y) (h0:=s.heap) (base:=base) I.ok.frames rfl I.stack j bM3 X r (I.hok.drp e) λQ k M F D=>cN9 (B:=[y]) (s1:=s1) J (λb Y=>by rw[Ad8.mp Y];exact⟨j,bM3⟩) k M F D q I.bare
end
section
variable {X:Cx}{CX:CXT}{C f:Addr}{k:Nat}{fd:FuncData}{ps:AH}{sp:Sp}{dvs:List V}{ds:AG}{E:XK}{x:Str}{p pos:Pos}{e:Expr}{es:AM}{t:TA}
theorem dE6 {bA:Eb}{σ:St}{H:Hp}{s:Shared}{Q:VK}{us:AG}{vs:List V}(M:XMk X.K C f)(F:FnOk X.prog X.w X.K X.mg X.base CX k f fd ps sp)(hr:Room (k+1) X.A)(hb:Binds X.K fd ps ds)(hd:Vals dvs ds)
  (hx:w6 CX X E) (I:Inv X bA σ H s) (r:Vals vs us) (hv:vs.length<=1000) (h:∀x,H x=none->sp (.ref x::(vs++dvs)) (upd H x (aC3 x C none)) (λv H2=>v=.non/\Q (.ref x) H2) E) :
  wpAny (model X.prog X.w) X.A (call (.ref C) us) (λu s'=>u=.ref (s.heap.objs.size+1)/\∃H',Inv X bA σ H' s'/\Q (.ref (s.heap.objs.size+1)) H') X.xe s:=by
 obtain⟨bm,N,nm,qn,bs,J,sn,sub,ab,col,dd,k0,k1,k2,k3,k5,mN,oI,o1,o2,o3,o4,o5,o6⟩:=M _ I.kIn;obtain⟨hp,g,d,tk,os⟩:=s;have R:=r.length;refine bV1 PySem.F.excBase_ValueError (by decide) PySem.F.excBase_ValueError o2 o1 o3 o4 o5 o6 (by unfold sizeLine;lia) λh' up at1 U sz=>?_
 have B:=h (hp.objs.size+1) (I.hok.fresh (Nat.le_succ _))
 have Y:Inv X bA σ (upd H (hp.objs.size+1) (aC3 (hp.objs.size+1) C none)) ⟨h',g,d,tk,os⟩:=I.laid (a:=hp.objs.size+1) (t':=tk) (h':=h') up (Nat.le_succ _) (bK1 (sl := #[]) U)
 have P:Vals (V.ref (hp.objs.size+1)::(vs++dvs)) (Value.ref (hp.objs.size+1)::(us++ds)):=.cons rfl (r.append hd)
 have hl:(Value.ref (hp.objs.size+1)::us++ds).length=ps.length:=by
  have e:=P.length
  rw[F.len _ _ _ _ B]at e;exact e.symm
 refine wpAny_call (codeAny_mono (F.run _ X.stack _ _ ⟨Value.ref (hp.objs.size+1)::us,[]⟩ (Value.ref (hp.objs.size+1)::(us++ds)) _ _ E (hr.make C us []) (Y.env0.make C us []) (hb _ (Value.ref (hp.objs.size+1)::us) Y.kIn hl) P B) λr s' j=>?_)
 cases r with
 | error e=>exact hx bA σ _ _ e s' Y j
 | ok fl=>
  cases fl with
  | ret u=>
   obtain⟨v,H',I3,rv,ev,q3⟩:=Y.after j;subst ev;exact⟨rv,rfl,H',I3,q3⟩
  | next=>exact False.elim j
  | brk=>exact False.elim j
  | cont=>exact False.elim j
def cY3 (C:Addr)(sp:Sp)(dvs:List V)(E:XK)(EX:Addr->Hp->Prop)(t:TA):TS:=λ_ σ H=>t σ H λvs H1=>vs.length<=1000/\∀x,H1 x=none->sp (.ref x::(vs++dvs)) (upd H1 x (aC3 x C none)) (λv H2=>v=.non/\∃y dx,V.ref x=.ref y/\H2 y=some (aC3 y C (some dx))/\EX dx (drp H2 y)) E
theorem dD1 {EX:Addr->Hp->Prop}{np cpos:Pos}(M:XMk X.K C f)(kp:PySem.W.keepIn X.K (.ref C)=true)(F:FnOk X.prog X.w X.K X.mg X.base CX k f fd ps sp)(hr:Room (k+1) X.A)(hg:Gl X x)(hm:X.mg x=some (.ref C))(hb:Binds X.K fd ps ds)(hd:Vals dvs ds)(hx:w6 CX X E)(hc:X.calm=true)
  (ha:PA X (e::es) t) (hX:∀(bA:Eb) (σ:St) (H:Hp) (s:Shared) (y dx:Addr),Inv X bA σ H s->X.s₀.heap.objs.size<=y->H y=some (aC3 y C (some dx))->EX dx (drp H y)->X.xe (.ref y) s)
  (Y:(x==("__debug__" : Str))=false:=by decide) (he:starEach (e::es) X.env=(false,eval e X.env)::starEach es X.env:=by rfl) (U:(backTo cpos (starEach es X.env)).any (·.1)=false:=by rfl) :
  PS X (.Raise (some (.Call (.Name x np) (e::es) [] cpos)) none pos) (cY3 C sp dvs E EX t):=by
 refine⟨?_⟩;intro bA s σ H D I h;rw[arm_exec_Raise];refine Aa (wpAny_standAt (dC5 (I.ok.hd hc) ?_));refine Aa ?_;refine wpAny_Call_Name_kw (Z5 I hg hm ?_ Y);refine PySem.W.callWith_K (h₀:=X.base) I.ok.mod.kin kp (thn (ha cpos bA s σ H _ I h) λus s1 ⟨vs,H1,j,r,hv,q⟩=>⟨j.kIn,?_⟩) he U
 refine wpAny_mono (dE6 (Q:=λv P=>∃y dx,v=.ref y/\P y=some (aC3 y C (some dx))/\EX dx (drp P y)) M F hr hb hd hx j r hv λx B=>?_) (λu s2 z=>?_) λ_ _ z=>z
 .exact q x B
 .obtain⟨rfl,H',J,y,dx,ey,e1,q1⟩:=z;cases ey;obtain⟨t0,sl,R⟩:=(J.hok _ _ e1).1;obtain⟨bm,N,nm,qn,bs,hdct,sn,sub,ab,col,dd,k0,k1,k2,k3,k5,mN,oI,o1,o2,o3,o4,o5,o6⟩:=M _ J.kIn;refine Aa (wpAny_standAt (Ae ?_));exact⟨_,_,_,_,_,_,_,_,_,_,_,_,_,_,_,_,_,_,_,t0,some dx,sl,rfl,o2.hasType PySem.F.excBase_ValueError.hasBase,o1,R,hX bA σ H' s2 _ dx J (Bd j.sz (Nat.le_succ _)) e1 q1⟩
end
section
variable {X:Cx}{e:Expr}{f:Str}{ta:TE}{pos:Pos}
def tXf (K:Frag)(ta:TE)(f:Str):TE:=λσ H Q=>ta σ H λx H1=>∃a C dx fs v,x=.ref a/\H1 a=some (excD a C (some dx))/\H1 dx=some (.xd fs)/\dA4 K C/\PySem.W.hasDictIn K C=true/\PySem.W.findIn K (.ref C) f=some none/\fs.lookup f=some v/\Q v H1
theorem eQ5 (K:Frag)(he:PE X e ta)(hb:attributeBase e f X.env (eval e X.env)=eval e X.env)(hK:X.K=K:=by rfl):PE X (.Attribute e f pos) (tXf K ta f):=by
 subst hK;refine⟨?_⟩;intro N s σ H Q I h;refine bZ5 hb (thn (he N s σ H _ I h) λu U ⟨x,M,w,rx,a,C,dx,fs,v,B,R,F,c,hd,n,l,q⟩=>?_)
 subst B;obtain rfl:u=Value.ref a:=rx;obtain⟨o,vs,P,g2,g3,g4⟩:=(w.hok a _ R).1;obtain⟨r,ns,j⟩:∃r,U.heap.Ns1 dx r/\∀f,RelO (fs.lookup f) (r f):=w.hok dx _ F;obtain⟨od,ho,hl⟩:=bD4 ns;obtain⟨u,hu,Y⟩:=RelO.some_of (v:=v) (o:=r f) (by rw[<- l];exact j f)
 have J:PySem.W.InstAt U.heap a o C (some od):=⟨P,g2,by
  obtain⟨oc,odi,oda,osl⟩:=o;cases g3;rfl,by rw[g4];exact ho⟩
 exact cY7 w.kIn J c (PySem.W.findObj_own hd n rfl (by rw[hl,hu])) (bG0 Y) ⟨v,M,w.tok _,Y,q⟩
end
section
variable {K:Frag}{C TB f N:Addr}{nm qn:Str}{bs:AG}{hdct:Bool}{sn:AH}{sub:AG}{ab:Bool}{col:Option Bool}{dd:AK}{k0 k1 k2 k3 k5:Option Value}
theorem cM0 {h:Heap}(X:K.In h)(e:PySem.W.excIn K TB bmV "ValueError.__new__" = true):OwnTail h bmV (.ref TB::bmV):=by
 obtain⟨s,N,nm,qn,bs,hdct,sn,sub,ab,col,dd,k0,k1,k2,k3,k5,Y,w,r,j,U⟩:=bE5 X e;exact .own w r j .base
theorem aD8 (w:PySem.W.excIn K C bmV "ValueError.__new__" = true):cF2 K C:=λh X=>by
 obtain⟨e,N,nm,qn,bs,hdct,sn,sub,ab,col,dd,k0,k1,k2,k3,k5,s,r,Y,U,j⟩:=bE5 X w;exact⟨e,N,nm,qn,bs,hdct,sn,sub,ab,col,dd,k0,k1,k2,k3,k5,r,j⟩
theorem eJ3 (ho:K.lookup C=some (excClassObj nm qn C N bs (.ref TB::bmV) hdct sn sub ab col dd k0 k1 k2 k3 k5 "ValueError.__new__"))(e:PySem.W.excIn K TB bmV "ValueError.__new__" = true):cF2 K C:=λh X=>
 ⟨_,N,nm,qn,bs,hdct,sn,sub,ab,col,dd,k0,k1,k2,k3,k5,X _ _ ho,cM0 X e⟩
theorem eP1 (X:K.In h)(G:h.Ns N mN)(e:PySem.W.nsIn K N x=some (some v)):mN x=some v:=by
 cases w:K.lookup N with
 | none=>unfold PySem.W.nsIn at e;rw[w]at e;cases e
 | some M=>
  obtain⟨c,d,R,B⟩:=M;obtain⟨o,Y,F,U,j,_,J⟩:=G;have s:=(X _ _ w).symm.trans U;cases s;unfold PySem.W.nsIn at e;rw[w]at e;dsimp only at j;subst j;dsimp only at e;cases r:Y.toList.find? (·.key.isStr x) with
  | none=>
   rw[r]at e;dsimp only at e;split at e <;> cases e
  | some Q=>
   rw[r]at e;cases e;rw[<- J];unfold nsFind findBy;rw[<- Array.find?_toList,r];rfl
theorem eM7 (ho:K.lookup C=some (excClassObj nm qn C N bs (.ref TB::bmV) hdct sn sub ab col dd k0 k1 k2 k3 k5 "ValueError.__new__"))(r:PySem.W.excIn K TB bmV "ValueError.__new__" = true)(w:PySem.W.nsOkIn K N=true)(hi:PySem.W.nsIn K N "__init__" = some (some (.ref f)))
  (j:K.lookup f=some oI) (e:oI.cls=.type "function"):XMk K C f:=λh X=>
 ⟨_,N,nm,qn,bs,hdct,sn,sub,ab,col,dd,k0,k1,k2,k3,k5,_,oI,X _ _ ho,cM0 X r,.of_isNs (PySem.W.isNs_of_in X w),eP1 X (.of_isNs (PySem.W.isNs_of_in X w)) hi,X _ _ j,e⟩
theorem cP5 (e:Value):refuseLoop e "__setattr__" (.ref C :: .ref TB::bmV)=pure ():=by
 rw[refuseLoop_ref,refuseLoop_ref];exact PySem.F.store_ValueError.passes e
end
section
variable {X:Cx}{k:Nat}{C f:Addr}{m:Str}{fd:FuncData}{ps:AH}{sp:Sp}{dvs:List V}{ds:AG}{apos pos:Pos}{o e:Expr}{es:AM}{ta:TE}{t:TA}{pl:Sem Bool}
theorem bX1 (ho:PE X.nox o ta)(c:Cls X.K C)(P:bC0 X.K C m f)(F:FnOk X.prog X.w X.K X.mg X.base (CXd X.prog X.w) k f fd ps sp)(hr:Room k X.A)(hb:Binds X.K fd ps ds)(hd:Vals dvs ds)(ha:PA X.nox (e::es) t)
  (N:starEach (e::es) X.env=(false,eval e X.env)::starEach es X.env:=by rfl) (M:(backTo pos (starEach es X.env)).any (·.1)=false:=by rfl)
  (ht:eval (.Call (.Attribute o m apos) (e::es) [] pos) X.env=(do
   let ov <- eval o X.env
   standAt apos.atName
   let (f,first) <- holding [ov] (getMethod ov m pl)
   callWith pos f first (backTo pos (starEach (e::es) X.env)) (backToKw pos (keywordEach [] X.env))):=by rfl)
 (I:Inv X bA σ H s) (h:i6 C m sp dvs EX ta t σ H Q):wpAny (model X.prog X.w) X.A (eval (.Call (.Attribute o m apos) (e::es) [] pos) X.env) (EP X bA σ Q) (dP3 X bA σ EX) s:=by
 refine PySem.W.methodCall_KW (pl:=pl) (wpAny_mono (ho bA s σ H _ (I.wish _) h) (λu s1 z=>?_) λ_ _ z=>False.elim z) ht
 obtain⟨x,H1,J,rx,a,dx,fs,ex,ea,l,q⟩:=z;have J:=J.unwish;subst ex;obtain rfl:u=Value.ref a:=rx;refine bN2 J ea c P l ?_;refine PySem.W.callWith_K (first:=[.ref a]) (h₀:=X.base) I.ok.mod.kin P.kp (wpAny_mono (ha pos bA s1 σ H1 _ (J.wish _) q) (λU R z=>?_) λ_ _ z=>False.elim z) N M
 obtain⟨vs,B,j,r,q2⟩:=z;have j:=j.unwish;refine⟨j.kIn,?_⟩;have r2:Vals (V.ref a::(vs++dvs)) (Value.ref a::(U++ds)):=.cons rfl (r.append hd);have hl:(Value.ref a::U++ds).length=ps.length:=by
  have e:=r2.length
  rw[F.len _ _ _ _ q2]at e;exact e.symm
 refine wpAny_call (codeAny_mono (F.run X.A X.stack R B ⟨Value.ref a::U,[]⟩ (Value.ref a::(U++ds)) (V.ref a::(vs++dvs)) Q EX hr j.env0 (hb R (Value.ref a::U) j.kIn hl) r2 q2) λr s' Y=>?_)
 cases r with
 | error e=>exact⟨R,B,j,Y⟩
 | ok fl=>
  cases fl with
  | ret u=>exact j.after Y
  | next=>exact False.elim Y
  | brk=>exact False.elim Y
  | cont=>exact False.elim Y
theorem bG1 (ho:PE X.nox o ta)(c:Cls X.K C)(B:bC0 X.K C m f)(F:FnOk X.prog X.w X.K X.mg X.base (CXd X.prog X.w) k f fd ps sp)(P:Room k X.A)(N:Binds X.K fd ps ds)(R:Vals dvs ds)(M:PA X.nox (e::es) t)
  (j:starEach (e::es) X.env=(false,eval e X.env)::starEach es X.env:=by rfl) (r:(backTo pos (starEach es X.env)).any (·.1)=false:=by rfl)
  (ht:eval (.Call (.Attribute o m apos) (e::es) [] pos) X.env=(do
   let ov <- eval o X.env
   standAt apos.atName
   let (f,first) <- holding [ov] (getMethod ov m pl)
   callWith pos f first (backTo pos (starEach (e::es) X.env)) (backToKw pos (keywordEach [] X.env))):=by rfl)
  (hs:swapsWith (.Call (.Attribute o m apos) (e::es) [] pos) none spos.line X.env=pure false:=by rfl) :
  PBd X [.Expr (.Call (.Attribute o m apos) (e::es) [] pos) spos] λEX=>aE0 (i6 C m sp dvs EX ta t):=by
 refine⟨λJ s σ H D EX I h=>?_⟩
 refine wpAny_execs_cons (wpAny_mono (wpAny_Expr_any (Q:=λfl s'=>fl=.next/\SP X J D .next s') (wpAny_mono (bX1 ho c B F P N R M j r ht I h) (λv s1 ⟨z,Y,U,r1,q1⟩=>⟨rfl,σ,Y,U,q1⟩) λ_ _ z=>z) I.quiet hs) (λfl s1 q=>?_) λ_ _ z=>z)
 obtain⟨rfl,q⟩:=q;exact wpAny_execs_nil q
end
structure RoomU (k:Nat)(A:Around):Prop where
 dp:A.depth+3*k+5<recursionLimit
 un:A.units+16*k+200<cLine
theorem Room.u (r:Room k A):RoomU k A:=⟨r.dp,r.un⟩
theorem RoomU.mark (r:RoomU k A):RoomU k (A.mark e):=⟨r.dp,r.un⟩
theorem RoomU.mono (r:RoomU k A)(h:j<=k):RoomU j A:=⟨by have:=r.dp;lia,by have:=r.un;lia⟩
theorem RoomU.deeper (r:RoomU (k+1) A)(env:Env):RoomU k (A.deeper env):=
 ⟨by have:=r.dp;show A.depth+1+3*k+5<_;lia,by have:=r.un;show A.units+3+16*k+200<_;lia⟩
structure cX9 (P:Program)(w:World)(K:Frag)(mg:Str->Option Value)(base:Heap)(k:Nat)(f:Addr)(fd:FuncData)(ps:AH)(sp:Sp):Prop where
 len:∀vs H Q E,sp vs H Q E->vs.length=ps.length
 run:∀(A:Around) (outer:List Env) (s:Shared) (H:Hp) (args:Args) (us:AG) (vs:List V) (Q:VK) (E:XK),RoomU k A->Env0 P w K mg base A outer s H->BindsTo s fd args (ps.zip us)->Vals vs us->sp vs H Q E ->
  codeAny (model P w) A (.call (.ref f) args) (CR CX0 outer P w H s Q E) s
abbrev cxU (P:Program)(w:World)(K:Frag)(mg:Str->Option Value)(base:Heap)(N:AH)(qual:Str)(scope:Scope)(f:Addr)(cd:Value)(A:Around)(outer:List Env)(s:Shared)(H:Hp)(E:XK):Cx:=
 {bA5 CX0 P w K mg base N qual scope f cd A outer s H E with calm:=false,xe:=λ_ _=>False}
section
variable {P:Program}{w:World}{K:Frag}{mg:Str->Option Value}{base:Heap}
theorem Fun.okU {x qual:Str}{st:Stmt}{f:Addr}{fd:FuncData}{N ps:AH}{k:Nat}{sp:Sp}(F:Fun K x qual st f fd)(S:B8 N ps (A9 st))(len:∀vs H Q E,sp vs H Q E->vs.length=ps.length)
  (X:∀(cdv:Value) (A:Around) (outer:List Env) (s:Shared) (H:Hp) (vs:List V) (Q:VK) (E:XK),RoomU k (A.deeper (envOfC qual (A9 st) s.heap.objs.size f cdv))->sp vs H Q E ->
   ∃t,PSs (cxU P w K mg base N qual (A9 st) f cdv A outer s H E) (Z6 st) t/\t {nx:=λ_ H'=>Q .non H',rt:=Q} (Y6 N vs) H):cX9 P w K mg base (k+1) f fd ps sp:=by
 obtain⟨oc,od,kV,doc,pm,an,cdv,ct,osl,rfl,lk,hcd⟩:=F.ex;refine⟨len,λA outer s H args us vs Q E hr Y hb r B=>?_⟩
 have hl:=len _ _ _ _ B
 have KX:K.In s.heap:=Y.mod.kin.keeps λb o e=>(Y.bs b o e).1
 have lim:s.heap.NoLimit:=Y.mod.nolimit.keeps λb o e=>(Y.bs b o e).1
 have U:∀y∈ps.zip us,(A9 st).names.lookup y.1=some .local\/((A9 st).names.lookup y.1=some .cell/\((cellsFrom (s.heap.objs.size+1) (A9 st).names []).lookup y.1).isSome=true):=λ⟨n,v⟩ hy=>by
  rcases S.par n (List.of_mem_zip hy).1 with q | q
  .exact .inl q
  .exact .inr ⟨q,PySem.W.cellsFrom_some _ _ _ (.inl q)⟩
 refine codeAny_call_function (by have:=hr.dp;lia) (KX _ _ lk) rfl S.co S.gen rfl (PySem.W.codeRec_of KX hcd) (hb _ _ _ _ ?_)
 refine wpAny_newFunctionEnv_cells S.kind U λenv he s1 x=>?_
 subst he;refine⟨lim.keeps x.toInCall.keep,codeAny_func ?_⟩;obtain⟨t,ht,hq⟩:=X cdv A outer s H vs Q E (hr.deeper _) B;have j:=bT9 (CX:=CX0) (A:={A with handled:=none}) (qual:=qual) (f:=f) (cd:=cdv) (E:=E) S rfl (⟨Y.frames,Y.mod,Y.bs,Y.bsz,Y.funs,Y.frf,Y.hok,Y.bare⟩:Env0 P w K mg base {A with handled:=none} outer s H) hl r x
 have I:Inv (cxU P w K mg base N qual (A9 st) f cdv A outer s H E) [] (Y6 N vs) H s1:=
  ⟨⟨j.ok.mod,j.ok.kind,j.ok.glob,j.ok.blt,j.ok.above,j.ok.inj,j.ok.has,j.ok.cab,(λz=>nomatch z),Around.frames_deeper Y.frames,j.ok.stk,j.ok.exf,j.ok.bs,j.ok.bsz,j.ok.noex,j.ok.exfs,j.ok.funs,j.ok.frf⟩,j.os,j.bare,j.base,j.loc,j.cell,j.free,j.freeC,j.pin,j.hok,j.len⟩
 refine wpAny_mono (ht [] s1 (Y6 N vs) H _ I hq) (λfl s' M=>?_) λe s' M=>False.elim M
 have R:∀{σ':St} {H':Hp} {v:V} {u:Value},Inv (cxU P w K mg base N qual (A9 st) f cdv A outer s H E) [] σ' H' s'->RelV v u->Q v H'->CE outer P w H s Q u s':=
  λ{σ' H' v u} J rv q=>⟨v,H',J.os,J.bare,J.base,J.hok,rv,q⟩
 cases fl with
 | ret u=>
  obtain⟨v,σ',H',J,rv,q⟩:=M;exact R J rv q
 | next=>
  obtain⟨σ',H',J,q⟩:=M;exact R (v:=V.non) (u:=Value.none) J rfl q
 | brk=>
  obtain⟨_,_,_,q⟩:=M;exact False.elim q
 | cont=>
  obtain⟨_,_,_,q⟩:=M;exact False.elim q
end
section
variable {X:Cx}{k:Nat}{f:Addr}{fd:FuncData}{ps:AH}{sp:Sp}{dvs:List V}{ds:AG}{x:Str}{p pos:Pos}{e:Expr}{es:AM}{t:TA}
theorem cF8 (F:cX9 X.prog X.w X.K X.mg X.base k f fd ps sp)(hr:RoomU k X.A)(hg:Gl X x)(hm:X.mg x=some (.ref f))(hk:PySem.W.keepIn X.K (.ref f)=true)(hb:Binds X.K fd ps ds)(hd:Vals dvs ds)
  (ha:PA X (e::es) t) (J:(x==("__debug__" : Str))=false:=by decide) (he:starEach (e::es) X.env=(false,eval e X.env)::starEach es X.env:=by rfl) (M:(backTo pos (starEach es X.env)).any (·.1)=false:=by rfl) :
  PE X (.Call (.Name x p) (e::es) [] pos) (V3 sp dvs E0 t):=by
 refine⟨?_⟩;intro P s σ H Q I h;refine wpAny_Call_Name_kw (Z5 I hg hm ?_ J);refine PySem.W.callWith_K (h₀:=X.base) I.ok.mod.kin hk (thn (ha pos P s σ H _ I h) λY R ⟨vs,B,U,r,q⟩=>⟨U.kIn,?_⟩) he M
 have N:Vals (vs++dvs) (Y++ds):=r.append hd
 have hl:(Y++ds).length=ps.length:=by rw[<- N.length];exact F.len _ _ _ _ q
 refine wpAny_call (codeAny_mono (F.run X.A X.stack R B ⟨Y,[]⟩ (Y++ds) (vs++dvs) Q E0 hr U.env0 (hb R Y U.kIn hl) N q) λr s' j=>?_)
 cases r with
 | error e=>exact False.elim j
 | ok fl=>
  cases fl with
  | ret u=>exact U.after j
  | next=>exact False.elim j
  | brk=>exact False.elim j
  | cont=>exact False.elim j
end
section
variable {prog:Program}{w:World}{A:Around}{E:Dz}{h:Heap}{g:Array GenState}{d:Drawn}{t:Nat}{os:OsState}{a C:Addr}{o:Obj}{K:Frag}
theorem cM1 (X:K.In h)(s:h.get? a=some o)(j:o.cls=.ref C)(r:PySem.W.subIn K (.ref C) (.type "object")=some true)(U:R (.ok (.ret (.ref C))) ⟨h,g,d,t,os⟩) :
  codeAny (model prog w) A (.call (.builtin "getset_descriptor.__get__") ⟨[.builtin "object.__class__",.ref a,.ref C],[]⟩) R ⟨h,g,d,t,os⟩:=by
 have e:(⟨h,g,d,t,os⟩:Shared).TypeIs (.builtin "object.__class__") "getset_descriptor" := F.typeOf_object_class
 have Y:PySem.W.Looks (model prog w) h (isSubtype (.ref C) (.type (".".intercalate ("object.__class__".cutAt '.').dropLast))) true:=by
  rw[F.owner_object_class];exact PySem.W.looks_subIn X r
 refine codeAny_call_builtin F.slot_gs_get.plain F.entry_gs_get (F.slot_gs_get.check _ _ _ _ _ _ _ _ e (F.args_gs_get _ _ _) ?_)
 repeat (any_goals (first | assumption | (with_reducible refine wpAny_loadPart_at s ?_;rw[j]) | with_reducible refine Y.at ?_ | wp_step))
 refine⟨Code.quiet_builtin _ (by decide +kernel),codeAny_builtin F.entry_object_class ?_⟩
 repeat (any_goals (first | assumption | (with_reducible refine wpAny_loadPart_at s ?_;rw[j]) | wp_step))
structure XAt (K:Frag)(C:Addr):Prop where
 ob:PySem.W.subIn K (.ref C) (.type "object")=some true
 be:PySem.W.subIn K (.ref C) (.type "BaseException")=some true
 ga:PySem.W.findIn K (.ref C) "__getattribute__" = some (some (.builtin "BaseException.__getattribute__"))
 gt:PySem.W.findIn K (.ref C) "__getattr__" = some none
 cl:PySem.W.findIn K (.ref C) "__class__" = some (some (.builtin "object.__class__"))
theorem cC4 (X:K.In h)(e:XAt K C)(j:h.get? a=some o)(r:o.cls=.ref C)(R:Q (.done (.ret (.ref C))) ⟨h,g,d,t,os⟩) :
  wpAny (model prog w) A (Builtin.«object.__getattribute__» ⟨[.ref a,.str "__class__" tk],[]⟩) Q E ⟨h,g,d,t,os⟩:=by
 have Y:(⟨h,g,d,t,os⟩:Shared).TypeIs (.builtin "object.__class__") "getset_descriptor" := F.typeOf_object_class
 have U:=F.typeOf_object_class
 have J:=F.slot_gs_get.lookup
 have N:=F.slot_gs_set.lookup
 have s:=PySem.W.looks_findIn (M:=model prog w) X e.cl
 repeat (any_goals (first | assumption | (with_reducible refine wpAny_loadPart_at j ?_;rw[r]) | with_reducible refine s.at ?_ | wp_step))
 refine cM1 X j r e.ob ?_
 repeat (any_goals (first | assumption | wp_step))
theorem dB9 (X:K.In h)(j:XAt K C)(J:h.get? a=some o)(s:o.cls=.ref C)(U:Q () ⟨h,g,d,t,os⟩):wpAny M A (checkBuiltinCall "BaseException.__getattribute__" ⟨[.ref a,nameV],[]⟩) Q E ⟨h,g,d,t,os⟩:=by
 have Y:builtinKind "BaseException.__getattribute__" = some .slot:=by decide +kernel
 have e:splitId "BaseException.__getattribute__" = some ("BaseException", "__getattribute__"):=by decide +kernel
 have r:=PySem.W.looks_subIn (M:=M) X j.be
 have N:=F.args_bexc_ga (.ref a) nameV
 simp only[checkBuiltinCall,Y,e];refine Aa ?_
 .unfold isInstance
  repeat (first | (with_reducible refine wpAny_loadPart_at J ?_;rw[s]) | with_reducible refine r.at ?_ | wp_step)
  exact U
theorem dA2 {tk:Tok}{fill expr:Bool}{Q:Dz}(X:K.In h)(e:XAt K C)(j:h.get? a=some o)(r:o.cls=.ref C)(N:Q (.ref C) ⟨h,g,d,t,os⟩) :
  wpAny (model prog w) A (getAttrBy (.ref a) (.str "__class__" tk) fill expr) Q E ⟨h,g,d,t,os⟩:=by
 have f3:=F.excAttr_ValueError.ga.bind (.ref a)
 have U:(expr&&onTheHeap (Value.builtin "BaseException.__getattribute__"))=false:=by cases expr <;> rfl
 have s:(Value.builtin "BaseException.__getattribute__" == Value.builtin "object.__getattribute__")=false:=by decide +kernel
 have J:(onTheHeap (Value.ref C)&&Value.builtin "BaseException.__getattribute__" == Value.builtin "object.__getattribute__")=false:=by rw[s];rfl
 have Y:=PySem.W.looks_findIn (M:=model prog w) X e.ga
 have L2:=PySem.W.looks_findIn (M:=model prog w) X e.gt
 repeat (any_goals (first | assumption | (with_reducible refine wpAny_loadPart_at j ?_;rw[r]) | with_reducible refine Y.at ?_ | with_reducible refine L2.at ?_ | wp_step))
 refine codeAny_call_builtin F.excAttr_ValueError.ga.plain F.entry_bexc_ga (dB9 X e j r (cC4 X e j r ?_))
 repeat (any_goals (first | assumption | wp_step))
theorem cH6 {Q:Option Value->Shared->Prop}(X:K.In h)(e:XAt K C)(j:h.get? a=some o)(r:o.cls=.ref C)(s:Q (some (.ref C)) ⟨h,g,d,t+1,os⟩):wpAny (model prog w) A (getAttr? (.ref a) "__class__") Q E ⟨h,g,d,t,os⟩:=by
 unfold getAttr? getAttrBy?
 repeat (any_goals (first | assumption | with_reducible apply dA2 X e j r | wp_step))
theorem bH1 (X:K.In h)(B:XAt K C)(R:h.get? a=some o)(N:o.cls=.ref C)(J:PySem.W.Looks (model prog w) h (typeOf c) (.type "type"))(Y:PySem.W.Looks (model prog w) h (isType c) true)(s:PySem.W.Looks (model prog w) h (isType (.ref C)) true)
  (r:PySem.W.Looks (model prog w) h (isSubtype (.ref C) c) b) (U:(Value.ref C==c)=true->b=true) (j:∀tk',Q (.done (.ret (.bool b))) ⟨h,g,d,tk',os⟩) :
  wpAny (model prog w) A (Builtin.«isinstance.nested» ⟨[.ref a,c,.int dep tk],[]⟩) Q E ⟨h,g,d,t,os⟩:=by
 have M:PySem.W.Looks (model prog w) h (typeOf (.ref a)) (.ref C):=by
  intro P Q' E' s' k q;unfold typeOf;exact Aa (wpAny_loadPart (k _ _ R) (Ae (by rw[N];exact q)))
 have F:PySem.W.Looks (model prog w) h (isInstance (.ref a) c) b:=M.andThen r
 unfold Builtin.«isinstance.nested»;refine Aa (M.at ?_);by_cases e:(Value.ref C==c)=true
 .have:=U e
  subst this;rw[Ac e];refine Aa (wpAny_rule ?_);exact Ae (j t)
 .rw[Ab e];refine Aa (J.at ?_);rw[Ac (by decide)]
  k_delta "plainIsInstance"
  refine Aa (Aa (Y.at ?_));simp only[Bool.not_true,Cp,if_false];refine Aa (F.at ?_);cases b with
  | true=>
   simp only[if_true];first
    | exact Ae (Ae (j _))
    | exact Ae (j _)
    | exact Aa (Ae (Ae (j _)))
  | false=>
   simp only[Cp,if_false];refine Aa (cH6 X B R N ?_);refine Aa (s.at ?_);simp only[Bool.not_true,Cp,if_false];refine Aa (wpAny_rule ?_);refine r.at ?_;first
    | exact Ae (j _)
    | exact Ae (Ae (j _))
    | exact Aa (Ae (Ae (j _)))
end
structure XCl (K:Frag)(D:Addr):Prop where
 cls:(PySem.W.clsIn K D).isSome=true
 ty:PySem.W.typeIn K (.ref D)=some (.type "type")
theorem XCl.isType {K:Frag}{D:Addr}(x:XCl K D){M:Model}{h:Heap}(X:K.In h):PySem.W.Looks M h (PySem.isType (.ref D)) true:=by
 have e:=x.cls
 unfold PySem.W.clsIn at e;split at e
 .rename_i U J w r ho;intro j Y s N k q;unfold PySem.isType loadHead;exact Aa (wpAny_loadPart (k _ _ (X _ _ ho)) (Ae q))
 .cases e
def XIs (K:Frag)(C:Addr):V->Bool->Prop
 | .ref D,b=>XCl K D/\PySem.W.subIn K (.ref C) (.ref D)=some b/\(D=C->b=true)
 | .ty T,b=>typeOf (.type T)=pure (.type "type")/\PySem.W.subIn K (.ref C) (.type T)=some b
 | _,_=>False
section
variable {prog:Program}{w:World}{A:Around}{E:Dz}{a C:Addr}{K:Frag}
def bI5 (K:Frag)(a C:Addr)(s:Shared):Prop:=K.In s.heap/\∃o,s.heap.get? a=some o/\o.cls=.ref C
theorem bC2 (M:XAt K C)(N:XCl K C)(r:RelV y u)(U:XIs K C y b):Answers (bI5 K a C) (.ref a) u b:=λP tk=>by
 intro prog w A R s hs;obtain⟨⟨X,o,B,Q⟩,F⟩:=hs;obtain⟨h,g,d,t,os⟩:=s;cases y with
 | ref D=>
  cases r
  obtain⟨Y,J,x3⟩:=U;exact bH1 X M B Q (PySem.W.looks_typeIn X Y.ty) (Y.isType X) (N.isType X) (PySem.W.looks_subIn X J) (λe=>x3 (Value.ref.inj (beq_iff_eq.mp e)).symm) λj=>F j
 | ty T=>
  cases r
  obtain⟨Y,J⟩:=U;exact bH1 X M B Q (PySem.W.Looks.of_pure Y) (PySem.W.Looks.of_pure rfl) (N.isType X) (PySem.W.looks_subIn X J) (λe=>by cases beq_iff_eq.mp e) λj=>F j
 | _=>exact False.elim U
theorem cM2 (hs:bI5 K a C s)(Y:IsTup s.heap tp cs.toArray)(e:tp≠C)(ha:AnswersAll (bI5 K a C) (.ref a) cs vs)
  (M:∀tk',Q (.done (.ret (.bool (vs.any id)))) {s with toks:=tk'}):wpAny (model prog w) A (Builtin.«isinstance.nested» ⟨[.ref a,.ref tp,.int 0 tk],[]⟩) Q E s:=by
 obtain⟨X,o,R,U⟩:=hs;obtain⟨h,g,d,t,os⟩:=s;obtain⟨ot,ht,r,n,j⟩:=Y;have B:(⟨h,g,d,t,os⟩:Shared).TypeIs (.ref tp) "tuple" := ⟨_,ht,r⟩;have f1:=F.isi_sub_tuple;have J:(Value.ref C==Value.ref tp)=false:=by
  cases q:(Value.ref C==Value.ref tp) with
  | false=>rfl
  | true=>exact absurd (Value.ref.inj (beq_iff_eq.mp q)).symm e
 repeat (any_goals (first | assumption | (with_reducible refine wpAny_loadPart_at R ?_;rw[U]) | wp_step))
 rw[j];refine Ae ?_;refine Aa ?_;simp only[Option.getD_some];rw[<- Array.forIn_toList,List.toList_toArray];refine isinstance_items (dep:=0) (P:=bI5 K a C) (λs tk z=>z) cs vs _ _ ha ⟨X,o,R,U⟩ λtk'=>?_
 cases N:vs.any id with
 | true=>
  simp only[if_true]
  repeat (any_goals (first | assumption | wp_step))
  exact N▸M tk'
 | false=>
  simp only[Cp,if_false]
  repeat (any_goals (first | assumption | wp_step))
  exact N▸M tk'
end
def dE9 (K:Frag)(C:Addr):List V->List Bool->Prop
 | [],[]=>True
 | y::ys,b::bs=>XIs K C y b/\dE9 K C ys bs
 | _,_=>False
theorem cG3 {K:Frag}{a C:Addr}(e:XAt K C)(w:XCl K C):∀{ys:List V} {us:AG} {bs:List Bool},Vals ys us->dE9 K C ys bs->AnswersAll (bI5 K a C) (.ref a) us bs
 | [],_,[],.nil,_=>trivial
 | y::ys,_,b::bs,.cons r t,⟨h1,h2⟩=>⟨bC2 e w r h1,cG3 e w t h2⟩
 | [],_,_::_,.nil,z=>z.elim
 | _::_,_,[],.cons _ _,z=>z.elim
end L2
namespace LV
open PySem PySem.Spec PyProof.Rows L2
section
variable {K:Frag}{B:Hp}{ρ ρ':List Sl}{m:Bool}{t ta tb:TE}{d d':PyData}{ds es:AF}
def WB (K:Frag)(B:Hp)(t:TS)(ρ:List Sl)(R:AE):Prop:=
 ∀(S:Addr->Prop) (D:bF7) (σ:L2.St) (H:Hp) (o:Nat->AL),Env K S B H σ ρ o->Sat K S B R D->t D σ H
theorem W.wb {t:TS}{R:AE}(h:W K t ρ R):WB K B t ρ R:=λS D σ H o I s=>h S B D σ H o I s
theorem Q2 {t u:TS}{R:AE}(h:WB K B t ρ {R with nx:=λρ'=>WB K B u ρ' R}):WB K B (cC0 t u) ρ R:=λS D σ H o I s=>
 h S {D with nx:=u D} σ H o I ⟨λρ' Y e j r w=>w S D Y e j r s,s.rt,s.rl,s.bk,s.ct⟩
theorem bW6 {c:TT}{t u:TS}{b:Bool}{R:AE}(h:T K c ρ b)(h1:b=true->WB K B t ρ R)(r:b=false->WB K B u ρ R):WB K B (bN3 c t u) ρ R:=λS D σ H o I s=>h S B σ H o I _ λe w=>by
 cases b with
 | true=>exact h1 rfl S D σ e o (I.grow w) s
 | false=>exact r rfl S D σ e o (I.grow w) s
theorem aW4 {t:TA}{EX:Hp->Prop}{R:AE}(w:A K m t ρ ds)(j:ds.length<=1000)(e:∀H',Same B H'->EX H'):WB K B (dF2 EX t) ρ R:=λS D σ H o I s=>
 w S B σ H o I _ λvs H' Y r=>⟨by rw[r.length];exact j,e H' (L2.Same.tr I.base Y)⟩
theorem aH3 {t:TS}{N:AH}{vs:List V}{S:Addr->Prop}{H:Hp}{Q:VK}(Y:∀b,S b->∃u:HM,H b=some u.ho)(r:Reps K (hid S H) vs ds)(w:WB K H t (sl0 N.length ds) {nx:=λ_=>d=.none,rt:=λe=>e=d})
  (k:∀v H',Same H H'->Rep K (hid S H') v d->Q v H'):t {nx:=λ_ H'=>Q .non H',rt:=Q} (L2.Y6 N vs) H:=
 w S _ _ H _ (env0 Y r) ⟨λρ' J H' U j z=>k _ H' j.base (by rw[z];exact .non),λv e H' s X z=>k v H' s (by rw[<- z];exact X),λ_ _ _ _ _ _ _ _ z=>z.elim,λ_ _ _ _ _ z=>z.elim,λ_ _ _ _ _ z=>z.elim⟩
theorem W3 {t:TS}{N:AH}{vs:List V}{S:Addr->Prop}{H:Hp}{Q:VK}(j:∀b,S b->∃u:HM,H b=some u.ho)(r:Reps K (hid S H) vs ds)(w:WB K H t (sl0 N.length ds) {nx:=λ_=>False}):t {nx:=λ_ H'=>Q .non H',rt:=Q} (L2.Y6 N vs) H:=
 w S _ _ H _ (env0 j r) ⟨λρ' J H' X Y z=>z.elim,λv e H' s U z=>z.elim,λ_ _ _ _ _ _ _ _ z=>z.elim,λ_ _ _ _ _ z=>z.elim,λ_ _ _ _ _ z=>z.elim⟩
theorem Env.unset (I:Env K S B H σ ρ o)(j:Nat):Env K S B H (σ.set j none) (ρ.set j .no) o:=by
 have at_:∀{i:Nat} {x:Sl},x≠.no->(ρ.set j .no)[i]? = some x->j≠i/\ρ[i]? = some x:=λ{i x} w h=>by
  rw[List.getElem?_set]at h;by_cases c:j=i
  .rw[Ac c]at h;split at h
   .exact absurd (Ab4 h).symm w
   .cases h
  .rw[Ab c]at h;exact⟨c,h⟩
 have no:∀{x:Sl},x.os=true->x≠.no:=λh e=>by rw[e]at h;cases h
 have Y:∀b,F1 (ρ.set j .no) o S b->F1 ρ o S b:=λb z=>bD0 (x:=.no) rfl z
 have g:Same (hid (F1 ρ o S) H) (hid (F1 (ρ.set j .no) o S) H):=K3 (L2.Same.rf _) λb z _=>Y b z
 have s:∀{i:Nat},j≠i->(σ.set j none)[i]? = σ[i]? := λc=>Ad0 c
 refine⟨by simpa using I.len,I.base,I.sl,λi x h w b R=>I.new i x (at_ (no w) h).2 w b R,λi k x y h1 J X U b M N=>I.inj i k x y (at_ (no X) h1).2 (at_ (no U) J).2 X U b M N,λi ds h=>?_,λi d h=>?_,λi d h=>?_,λi t h=>?_⟩
 .obtain⟨c,h⟩:=at_ (λe=>by cases e) h
  obtain⟨p,Q,a,xs,b,r⟩:=I.own i ds h;exact⟨p,Q,by rw[s c];exact a,xs,b,r.mono g⟩
 .obtain⟨c,h⟩:=at_ (λe=>by cases e) h
  obtain⟨u,a,b⟩:=I.val i d h;exact⟨u,by rw[s c];exact a,b.mono g⟩
 .obtain⟨c,h⟩:=at_ (λe=>by cases e) h
  obtain⟨u,a,b⟩:=I.bor i d h;exact⟨u,by rw[s c];exact a,b⟩
 .obtain⟨c,h⟩:=at_ (λe=>by cases e) h
  obtain⟨n,u,a,b⟩:=I.tr i t h;exact⟨n,u,by rw[s c];exact a,b.mono g (L2.Same.rf _)⟩
end
end LV
namespace L2
open PySem PySem.Spec PyProof.Rows
section
variable {κ:Type}[DecidableEq κ]
def aX2 (kvs:List (κ×V))(k:κ):Option V:=(kvs.find? λkv=>decide (kv.1=k)).map (·.2)
def bP7 (kvs:List (κ×V))(k:κ)(v:V):List (κ×V):=
 if(kvs.any λkv=>decide (kv.1=k))=true then kvs.map (λkv=>if kv.1=k then(kv.1,v) else kv) else kvs++[(k,v)]
theorem bN8 {p:κ×V}{r:List (κ×V)}{k:κ}(e:p.1=k):aX2 (p::r) k=some p.2:=by simp[aX2,Aq,e]
theorem bN9 {p:κ×V}{r:List (κ×V)}{k:κ}(e:¬p.1=k):aX2 (p::r) k=aX2 r k:=by simp[aX2,Aq,e]
theorem cL6 (kvs:List (κ×V))(k:κ)(v:V):(bP7 kvs k v).length<=kvs.length+1:=by
 unfold bP7;split
 .rw[Aa3];lia
 .rw[Ab7,Av,List.length_nil];lia
theorem RelO.getD {o:Option V}{u:Option Value}{d:V}{d':Value}(r:RelO o u)(e:RelV d d'):RelV (o.getD d) (u.getD d'):=by
 cases o with
 | none=>cases u with
  | none=>exact e
  | some _=>exact(show False from r).elim
 | some _=>cases u with
  | none=>exact(show False from r).elim
  | some _=>exact r
theorem KV.val (r:KV kvs vs)(k:κ):RelO (aX2 kvs k) (valueAt vs k):=by
 unfold KV at r;induction r with
 | nil=>exact True.intro
 | @cons p q ps qs h t ih=>
  obtain⟨h1,w⟩:=h;by_cases e:p.1=k
  .have e':q.1=k:=h1.symm.trans e
   have b:valueAt (q::qs) k=some q.2:=by simp[valueAt,Aq,e']
   rw[bN8 e,b];exact w
  .have e':¬q.1=k:=λz=>e (h1.trans z)
   have b:valueAt (q::qs) k=valueAt qs k:=by simp[valueAt,Aq,e']
   rw[bN9 e,b];exact ih
theorem KV.any {kvs:List (κ×V)}{vs:List (κ×Value)}(r:KV kvs vs)(k:κ):(kvs.any λkv=>decide (kv.1=k))=vs.any λkv=>decide (kv.1=k):=by
 unfold KV at r;induction r with
 | nil=>rfl
 | cons h t e=>rw[List.any_cons,List.any_cons,e,h.1]
theorem KV.repl (r:KV kvs vs)(k:κ)(j:RelV y u) :
  KV (kvs.map λkv=>if kv.1=k then(kv.1,y) else kv) (vs.map λkv=>if kv.1=k then(kv.1,u) else kv):=by
 unfold KV at r ⊢;induction r with
 | nil=>exact .nil
 | @cons p q ps qs h t ih=>
  rw[Ac7,Ac7];refine .cons ?_ ih;obtain⟨h1,w⟩:=h;by_cases e:p.1=k
  .rw[Ac e,Ac (h1.symm.trans e)];exact⟨h1,j⟩
  .rw[Ab e,Ab (λz=>e (h1.trans z))];exact⟨h1,w⟩
theorem KV.put (r:KV kvs vs)(k:κ)(w:RelV y u):KV (bP7 kvs k y) (stored vs k u):=by
 unfold bP7 stored;rw[r.any k];by_cases e:(vs.any λkv=>decide (kv.1=k))=true
 .rw[Ac e,Ac e];exact r.repl k w
 .rw[Ab e,Ab e];exact Paired.snoc r ⟨rfl,w⟩
end
theorem dH9 (r:RelV (kV k) u):(P7 P w).is k u=true:=by
 cases k with
 | inl i=>obtain⟨t,e⟩:=(show ∃t,u=Value.int i t from r);subst e;exact cE9 P w i t
 | inr x=>obtain⟨t,e⟩:=(show ∃t,u=Value.str x t from r);subst e;exact cK3 P w x t
theorem bT8:∀{ks:List Key} {us:AG},Vals (ks.map kV) us->ItemsAre (P7 P w) ks us
 | [],_,r=>by rw[By]at r;cases r;exact .nil
 | k::ks,_,r=>by
  rw[Ac7]at r;cases r with
  | cons h t=>exact .cons (dH9 h) (bT8 t)
abbrev KT (H:Hp):List (List Key×V)->List (List Key×Addr×Value)->Prop:=Paired λp q=>p.1=q.1/\H q.2.1=some (.tup (p.1.map kV))/\RelV p.2 q.2.2
theorem KT.val (r:KT H kvs xs)(k:List Key):RelO (aX2 kvs k) ((atKey xs k).map (·.2)):=by
 induction r with
 | nil=>exact True.intro
 | @cons p q ps qs h t ih=>
  obtain⟨h1,_,w⟩:=h;by_cases e:p.1=k
  .have e':q.1=k:=h1.symm.trans e
   have b:atKey (q::qs) k=some q.2:=by simp[atKey,Aq,e']
   rw[bN8 e,b];exact w
  .have e':¬q.1=k:=λz=>e (h1.trans z)
   have b:atKey (q::qs) k=atKey qs k:=by simp[atKey,Aq,e']
   rw[bN9 e,b];exact ih
section
variable {P:Program}{w:World}{H:Hp}{h:Heap}{a:Addr}
theorem eD7 (ok:HOk P w H h)(e:Rd H a u):ObjOk P w H h a u:=e.ok ok
theorem dG4 (ok:HOk P w H h)(e:Rd H a (.dK kvs)):kvs.length<=sizeLine/\(a==sysModules)=false/\∃vs,KV kvs vs/\h.DictOf (P7 P w) a vs:=
 show ObjOk P w H h a (.dK kvs) from eD7 ok e
theorem eR5 (ok:HOk P w H h)(e:H a=some (.dK kvs)):kvs.length<=sizeLine/\(a==sysModules)=false/\∃vs,KV kvs vs/\h.DictOf (P7 P w) a vs:=dG4 ok (.inl e)
theorem dS9 (ok:HOk P w H h)(e:H a=some (.tup (ks.map kV))):(tupleKind (P7 P w)).is h ks a:=by
 obtain⟨_,its,r,o,h1,j,⟨n,s⟩,_⟩:=(show ObjOk P w H h a (.tup (ks.map kV)) from ok a _ e)
 exact⟨o,its.toArray,n,h1,j,s,by simpa using bT8 r⟩
theorem eE5 (ok:HOk P w H h)(e:Rd H a (.dT kvs)):kvs.length<=sizeLine/\(a==sysModules)=false /\
  ∃xs,KT H kvs xs/\h.DictOfH (tupleKind (P7 P w)) a xs:=by
 obtain⟨z,y,xs,r,o,s,j,h1,Y,X,U,J⟩:=(show ObjOk P w H h a (.dT kvs) from eD7 ok e)
 refine⟨z,y,xs,r,o,s,j,h1,Y,X,U,λx hx=>?_,J⟩
 have all:∀{l:List (List Key×V)} {m:List (List Key×Addr×Value)},KT H l m->∀x∈m,(tupleKind (P7 P w)).is h x.1 x.2.1:=by
  intro l m q;induction q with
  | nil=>intro x hx;exact nomatch hx
  | @cons p q ps qs hq t ih=>
   intro x hx;rcases Aa1.mp hx with e | hx
   .subst e;exact dS9 ok (by rw[<- hq.1];exact hq.2.1)
   .exact ih x hx
 exact all r x hx
end
def DGet (H:Hp)(a:Addr)(y:V)(r:Option V):Prop:=
 (∃kvs k,Rd H a (.dK kvs)/\y=kV k/\r=aX2 kvs k)\/∃kvs k b,Rd H a (.dT kvs)/\y=.ref b/\H b=some (.tup (k.map kV))/\r=aX2 kvs k
theorem DGet.k {H:Hp}{a:Addr}{kvs:List (Key×V)}{k:Key}(e:H a=some (.dK kvs)):DGet H a (kV k) (aX2 kvs k):=.inl ⟨kvs,k,.inl e,rfl,rfl⟩
section
variable {X:Cx}{bA:Eb}{σ:St}{H:Hp}{s:Shared}{a:Addr}{y v:V}{u r:Value}{o:Option V}{A:Around}{E:Dz}
theorem Inv.big (I:Inv X bA σ H s):sysModules<s.heap.objs.size:=by
 have h:mainGlobals<s.heap.objs.size:=(I.mod.glob.keeps I.bk).lt
 exact Nat.lt_trans (by decide) h
theorem dW5 (I:Inv X bA σ H s)(M:Mut (H a))(J:Heap.SameBut a s.heap h')(U:∃q,h'.get? a=some q)(j:ObjOk X.prog X.w (upd H a ob) h' a ob) :
  Inv X bA σ (upd H a ob) {s with heap:=h',toks:=t'}:=
 I.write (x:=a) (e:=a) M (.inl rfl) (λb q Y z=>(J.2 b Y).trans z) U j
theorem eL0 (z:kvs.length<=sizeLine)(j:(a==sysModules)=false)(e:KV kvs vs)(dd:h'.DictOf (P7 P w) a vs) :
  ObjOk P w H' h' a (.dK kvs):=⟨z,j,vs,e,dd⟩
end
theorem dN3 (h:Heap)(e:sysModules<h.objs.size):ObjOk P w H (h.push {cls:=.type "dict",data:=.dict #[]}) h.objs.size (.dK []):=
 ⟨Co _,beq_eq_false_iff_ne.mpr (Ne.symm (Ab9 e)),[],.nil,Heap.DictOf.new h⟩
def cE6:List (TE×TE)->St->Hp->(List (V×V)->Hp->Prop)->Prop
 | [],_,H,Q=>Q [] H
 | (tk,tv)::r,σ,H,Q=>tk σ H λx H1=>tv σ H1 λy H2=>cE6 r σ H2 λps H3=>Q ((x,y)::ps) H3
abbrev VV:List (V×V)->List (Value×Value)->Prop:=Paired λp q=>RelV p.1 q.1/\RelV p.2 q.2
def PPs (X:Cx)(pos:Pos)(keys:List (Option Expr))(values:AM)(trs:List (TE×TE)):Prop:=
 ∀(bA:Eb) (s:Shared) (σ:St) (H:Hp) (Q:List (V×V)->Hp->Prop),Inv X bA σ H s->cE6 trs σ H Q ->
  wpAny (model X.prog X.w) X.A (evalPairs (pairTrees keys values X.env pos)) (λvs s'=>∃ps H',Inv X bA σ H' s'/\VV ps vs/\Q ps H') X.xe s
theorem cZ3:PPs X pos [] [] []:=λe s σ H Q I h=>pairTrees_nil_walk ⟨[],H,I,.nil,h⟩
theorem w5 (N:PE X k tk)(F:PE X v tv)(R:PPs X pos ks vs trs) :
  PPs X pos (some k::ks) (v::vs) ((tk,tv)::trs):=λe s σ H Q I h=>
 pairTrees_cons_walk (thn (N e s σ H _ I h) λu s1 ⟨x,r,U,rx,B⟩=>thn (F e s1 σ r _ U B) λw2 s2 ⟨y,j,J,ry,P⟩=>
  thn (R e s2 σ j _ J P) λws s3 ⟨ps,Y,M,w,q3⟩=>⟨(x,y)::ps,Y,M,.cons ⟨rx,ry⟩ w,q3⟩)
def aL6 (kvs more:List (Key×V)):List (Key×V):=more.foldl (λacc kv=>bP7 acc kv.1 kv.2) kvs
theorem KV.merge:∀{more:List (Key×V)} {rs:List (Key×Value)} {kvs:List (Key×V)} {vs:List (Key×Value)},KV more rs->KV kvs vs->KV (aL6 kvs more) (merged vs rs):=by
 intro more rs kvs vs r;unfold KV at r;induction r generalizing kvs vs with
 | nil=>intro q;exact q
 | @cons p q ps qs h t ih=>
  intro r0;have e:KV (bP7 kvs p.1 p.2) (stored vs q.1 q.2):=by
   have:=r0.put p.1 h.2
   rw[<- h.1];exact this
  exact ih e
theorem aR5:∀(more kvs:List (Key×V)),(aL6 kvs more).length<=kvs.length+more.length
 | [],kvs=>by show kvs.length<=kvs.length+0;lia
 | p::r,kvs=>by
  have h1:=aR5 r (bP7 kvs p.1 p.2)
  have h2:=cL6 kvs p.1 p.2
  show(aL6 (bP7 kvs p.1 p.2) r).length<=_
  rw[Av];lia
theorem bL3:∀{kvs:List (Key×V)} {ws:List (Value×Value)},VV (kvs.map λkv=>(kV kv.1,kv.2)) ws->∃rs,Carries (P7 P w) ws rs/\KV kvs rs
 | [],_,r=>by rw[By]at r;cases r;exact⟨[],True.intro,.nil⟩
 | p::kvs,_,r=>by
  rw[Ac7]at r;cases r with
  | @cons a b as bs h t=>
   obtain⟨rs,c,q⟩:=bL3 (P:=P) (w:=w) t;obtain⟨j,e⟩:=b;exact⟨(p.1,e)::rs,⟨dH9 h.1,rfl,c⟩,.cons ⟨rfl,h.2⟩ q⟩
def eF3 (trs:List (TE×TE)):TE:=λσ H Q=>∀p,H p=none->cE6 trs σ (upd H p (.dK [])) λps H2=>H2 p=some (.dK [])/\∃kvs:List (Key×V),ps=kvs.map (λkv=>(kV kv.1,kv.2))/\kvs.length<=15/\Q (.ref p) (upd H2 p (.dK (aL6 [] kvs)))
theorem cV1 (h:PPs X pos keys values trs)(j:keys.all (·.isSome)=true)(hl:keys.length=values.length)(h0:keys≠[])
  (Y:keys.length<=15):PE X (.Dict keys values pos) (eF3 trs):=by
 refine⟨?_⟩;intro N s σ H Q I q;have hn:=I.hok.fresh (Aa7 s.heap.objs.size);have M:=I.laid (a:=s.heap.objs.size) (o:=.dK []) (h':=s.heap.push {cls:=.type "dict",data:=.dict #[]}) (t':=s.toks) (λ_ _ q=>Aa6 _ q) (Aa7 _) (dN3 s.heap I.big)
 refine wpAny_Dict_walk (knd:=P7 X.prog X.w) j hl h0 Y (thn (h N _ σ _ _ M (q _ hn)) λws s2 ⟨ps,H2,J,U,e,kvs,F,lk,q2⟩=>?_)
 subst F;obtain⟨rs,c,rk⟩:=bL3 (P:=X.prog) (w:=X.w) U;obtain⟨z,B,vs0,r0,R⟩:=eR5 J.hok e;cases r0;refine⟨rs,c,R,λh' r hs=>⟨.ref s.heap.objs.size,_,?_,rfl,q2⟩⟩
 have hz:(aL6 [] kvs).length<=sizeLine:=by
  have h1:=aR5 kvs []
  rw[List.length_nil]at h1;rw[Dg];lia
 have he:∃q,h'.get? s.heap.objs.size=some q:=let ⟨q,_,_,hq,_⟩:=r;⟨q,hq⟩
 exact dW5 J (by rw[e];exact True.intro) hs he (eL0 hz B (rk.merge .nil) r)
structure M2 (X:Cx)(o:Expr)(m:Str)(apos:Pos)(e f:Expr)(cpos:Pos):Prop where
 base:attributeBase o m X.env (eval o X.env)=eval o X.env
 few:((backTo cpos (starEach [e,f] X.env)).all (λx => !x.1)&&(backToKw cpos (keywordEach [] X.env)).all (λx=>x.1.isSome)
  && decide (([e,f]:AM).length+([]:List Keyword).length+(if([]:List Keyword).isEmpty then 0 else 1)<30))=true
 line:(apos.endLine==cpos.line)=true
 trees:backTo cpos (starEach [e,f] X.env)=[(false,eval e X.env),(false,eval f X.env)]
def IsD (H:Hp)(a:Addr):Prop:=(∃kvs,Rd H a (.dK kvs))\/∃kvs,Rd H a (.dT kvs)
theorem eG5 (I:Inv X bA σ H s)(d:IsD H a) :
  s.TypeIs (.ref a) "dict" /\ (∀b,Value.ref a=.ref b->∃ob,s.heap.get? b=some ob/\ob.dict=none)/\(a==sysModules)=false:=by
 rcases d with⟨kvs,e⟩ | ⟨kvs,e⟩
 .obtain⟨_,j,vs,_,w⟩:=dG4 I.hok e;refine⟨w.typeIs,λb q=>?_,j⟩
  cases q
  obtain⟨ob,_,_,h1,r,_⟩:=w;exact⟨ob,h1,r.2.1⟩
 .obtain⟨_,j,xs,_,w⟩:=eE5 I.hok e;refine⟨w.typeIs,λb q=>?_,j⟩
  cases q
  obtain⟨ob,_,_,h1,r,_⟩:=w;exact⟨ob,h1,r.2.1⟩
section
variable {X:Cx}{bA:Eb}{σ:St}{H:Hp}{s:Shared}{a:Addr}{y d:V}{u r:Value}{o:Option V}{A:Around}{E:Dz}
theorem eM6 (B:A.units+1<cLine)(I:Inv X bA σ H s)(g:DGet H a y o)(N:RelV y u)(M:RelV d r)(h:∀w' s',Inv X bA σ H s'->RelV (o.getD d) w'->Q w' s') :
  wpAny (model X.prog X.w) A (call (.builtin "dict.get") [.ref a,u,r]) Q E s:=by
 rcases g with⟨kvs,k,e,U,l⟩ | ⟨kvs,k,b,e,U,R,l⟩
 .subst U;obtain⟨z,J,vs,j,Y⟩:=dG4 I.hok e;refine call_meetsIn PySem.F.slot_dict_get Y.typeIs PySem.F.entry_dict_get (PySem.F.args_dict_get_3 _ _ _) (meets_dict_get_default (P7 X.prog X.w) a (dH9 N) J r) ⟨_,Y.mapOf,h _ _ (I.tok _) ?_⟩;rw[l];exact(j.val k).getD M
 .subst U;cases (show u=Value.ref b from N)
  obtain⟨z,J,xs,j,Y⟩:=eE5 I.hok e;refine call_meetsIn PySem.F.slot_dict_get Y.typeIs PySem.F.entry_dict_get (PySem.F.args_dict_get_3 _ _ _) (meetsH_dict_get_default (tupleKind (P7 X.prog X.w)) a b J r) ⟨tupleKind_room_in1 B,k,xs,dS9 I.hok R,Y,h _ _ (I.tok _) ?_⟩;rw[l];exact(j.val k).getD M
end
def dP0 (td ty tx:TE):TE:=λσ H Q=>td σ H λx H1=>∃a,x=.ref a/\IsD H1 a/\ty σ H1 λy H2=>tx σ H2 λz H3=>∃o,DGet H3 a y o/\Q (o.getD z) H3
section
variable {X:Cx}{o e f:Expr}{apos cpos:Pos}{td ty tx:TE}
theorem dO1 (hu:X.A.units+1<cLine)(ho:PE X o td)(P:PE X e ty)(hf:PE X f tx)(m:M2 X o "get" apos e f cpos):PE X (.Call (.Attribute o "get" apos) [e,f] [] cpos) (dP0 td ty tx):=by
 refine⟨?_⟩;intro w s σ H Q I h;refine wpAny_Call_method m.base m.few m.line PySem.F.plainAttrs_dict PySem.F.slot_dict_get PySem.F.type_dict_get (thn (ho w s σ H _ I h) λu s1 ⟨x,Y,j,rx,a,B,d,q1⟩=>?_)
 subst B;obtain rfl:u=Value.ref a:=rx;obtain⟨t1,t2,_⟩:=eG5 j d;refine⟨t1,t2,?_⟩;rw[m.trees];refine Calls.callWith_builtin rfl (Calls.evalArgs_plain (Calls.spliced_cons (thn (P w s1 σ Y _ j q1) λiv s2 ⟨y,U,M,ry,q2⟩=>
  Calls.spliced_cons (thn (hf w s2 σ U _ M q2) λfv s3 ⟨z,J,N,rz,ov,g,q3⟩=>Calls.spliced_nil ?_))))
 exact eM6 hu N g ry rz λw' s4 R r=>⟨_,J,R,r,q3⟩
end
abbrev KvR:List (AD×Addr×V)->List (AD×Addr×Value)->Prop:=Paired (λp q=>p.1=q.1/\p.2.1=q.2.1/\RelV p.2.2 q.2.2)
def atK (kv:List (AD×Addr×V))(k:AD):Option V:=(kv.find? λx=>decide (x.1=k)).map (·.2.2)
def bP1 (kv:List (AD×Addr×V))(k:AD)(b:Addr)(v:V):List (AD×Addr×V):=
 if(atK kv k).isSome then kv.map (λx=>if x.1=k then(x.1,x.2.1,v) else x) else kv++[(k,b,v)]
theorem bX0 (r:RelO o u):o.isSome=u.isSome:=by
 cases o <;> cases u <;> first | rfl | exact r.elim
theorem KvR.at_ {kv:List (AD×Addr×V)}{xs:List (AD×Addr×Value)}(r:KvR kv xs)(k:AD):RelO (atK kv k) ((atKey xs k).map (·.2)):=by
 induction r with
 | nil=>exact True.intro
 | @cons p q ps qs h t ih=>
  by_cases e:p.1=k
  .have e':q.1=k:=h.1.symm.trans e
   simpa[atK,atKey,Aq,e,e',RelO]using h.2.2
  .have e':¬q.1=k:=λz=>e (h.1.trans z)
   simpa[atK,atKey,Aq,e,e',RelO]using ih
theorem KvR.repl (r:KvR kv xs)(k:AD)(w:RelV y u):KvR (kv.map λx=>if x.1=k then(x.1,x.2.1,y) else x) (xs.map (putAt k u)):=by
 induction r with
 | nil=>exact .nil
 | @cons p q ps qs h t ih=>
  rw[Ac7,Ac7];refine .cons ?_ ih;by_cases e:p.1=k
  .have e':q.1=k:=h.1.symm.trans e
   rw[Ac e,putAt,Ac e'];exact⟨h.1.trans rfl |>.trans (by simp[e']),h.2.1,w⟩
  .have e':¬q.1=k:=λz=>e (h.1.trans z)
   rw[Ab e,putAt,Ab e'];exact h
theorem KvR.snoc (r:KvR kv xs)(h:p.1=q.1/\p.2.1=q.2.1/\RelV p.2.2 q.2.2):KvR (kv++[p]) (xs++[q]):=by
 induction r with
 | nil=>exact .cons h .nil
 | cons a _ e=>exact .cons a e
theorem KvR.put (r:KvR kv xs)(k:AD)(b:Addr)(w:RelV y u):KvR (bP1 kv k b y) (storedH xs k b u):=by
 have e:=bX0 (KvR.at_ r k)
 rw[Option.isSome_map]at e;unfold bP1 storedH;rw[e];split
 .exact KvR.repl r k w
 .exact KvR.snoc r ⟨rfl,rfl,w⟩
theorem KvR.mem (r:KvR kv xs)(h:x∈xs):∃y∈kv,y.1=x.1/\y.2.1=x.2.1:=by
 induction r with
 | nil=>cases h
 | @cons p q ps qs a _ ih=>
  rcases Aa1.mp h with rfl | h
  .exact⟨p,by simp,a.1,a.2.1⟩
  .obtain⟨y,w,e⟩:=ih h;exact⟨y,by simp[w],e⟩
theorem dN4 (kv:List (AD×Addr×V))(k:AD)(b:Addr)(v:V):(bP1 kv k b v).length<=kv.length+1:=by
 unfold bP1;split <;> simp
theorem bU5:∀{ks:AD} {us:AG},Vals (ks.map V.int) us->ItemsAre (intKind P w) ks us
 | [],_,r=>by rw[By]at r;cases r;exact .nil
 | k::ks,_,r=>by
  rw[Ac7]at r;cases r with
  | cons h t=>
   obtain⟨t',rfl⟩:=h;exact .cons (by show Value.isInt k (Value.int k t')=true;simp[Value.isInt]) (bU5 t)
section
theorem bZ4 (I:Inv X bA σ H s)(h:SqT X.K H b (ks.map V.int)):(tupleKind (intKind X.prog X.w)).is s.heap ks b:=by
 obtain⟨its,r,⟨o,h1,e,⟨n,j⟩,_⟩,_⟩:=I.tuple0 h;exact⟨o,its.toArray,n,h1,e,j,by simpa using bU5 r⟩
def dA3 (K:Frag)(H:Hp)(kv:List (AD×Addr×V)):Prop:=∀z∈kv,SqT K H z.2.1 (z.1.map V.int)
theorem dS4 (I:Inv X bA σ H s)(e:H a=some (dicO a kv))(B:dA3 X.K H kv):∃xs,KvR kv xs/\kv.length<=sizeLine/\(a==sysModules)=false/\s.heap.DictOfH (tupleKind (intKind X.prog X.w)) a xs:=by
 obtain⟨⟨xs,r,z,F,o,J,U,h1,M,N,R,Q⟩,_⟩:=(show ObjOk X.prog X.w H s.heap a (dicO a kv) from I.hok a _ e)
 refine⟨xs,r,z,F,o,J,U,h1,M,N,R,λx P=>?_,Q⟩
 obtain⟨y,hy,j,Y⟩:=KvR.mem r P
 have:=bZ4 I (B y hy)
 rw[j,Y]at this;exact this
def dK4 (K:Frag)(neg:Bool):R2:=λx y H Q=>∃b a ks kv,x=.ref b/\SqT K H b (ks.map V.int)/\y=.ref a/\H a=some (dicO a kv)/\dA3 K H kv/\Q (.bl (xor neg (atK kv ks).isSome)) H
theorem cK1 (K:Frag)(R:Room k X.A)(h:X.K=K:=by rfl):OpR X (compareOp .NotIn) (dK4 K true):=by
 subst h;intro bA s σ H x y v u Q I B P ⟨b,a,F,kv,j,J,Y,U,N,q⟩;subst j Y;cases (show v=Value.ref b from B)
 cases (show u=Value.ref a from P)
 obtain⟨xs,r,z,M,w⟩:=dS4 I U N;refine wpAny_notIn_heap (tupleKind_room_in1 (by have:=R.un;lia)) (bZ4 I J) M w ?_
 have e:=bX0 (KvR.at_ r F)
 rw[Option.isSome_map]at e;rw[<- e];exact⟨.bl _,H,I.tok _,rfl,by simpa using q⟩
end
theorem cY4 (r:KvR kv xs)(z:kv.length<=sizeLine)(X:(a==sysModules)=false)(h1:h'.get? a=some o)(e:o.ExactDict)(j:o.data=.dict es ep)
  (s:es.toList=xs.map dEnt) (Y:(xs.map (·.1)).Nodup):ObjOk P w H' h' a (dicO a kv):=
 ⟨⟨xs,r,z,X,o,es,ep,h1,e,j,s,Y⟩,⟨o,h1⟩,λU J ⟨xs,r,z,X,o,es,ep,h1,e,j,s,Y⟩ k=>⟨xs,r,z,X,o,es,ep,k _ h1,e,j,s,Y⟩⟩
def cU8:TE:=λ_ H Q=>∀p,H p=none->Q (.ref p) (upd H p (dicO p []))
theorem _root_.L2.Inv.big' (I:Inv X bA σ H s):sysModules<s.heap.objs.size:=by
 have h:mainGlobals<s.heap.objs.size:=(I.mod.glob.keeps I.bk).lt
 exact Nat.lt_trans (by decide) h
theorem dC4:PE X (.Dict [] [] pos) cU8:=⟨λe s σ H Q I h=>
 wpAny_Dict_empty ⟨.ref s.heap.objs.size,_,I.laid (a:=s.heap.objs.size) (o:=dicO s.heap.objs.size []) (t':=s.toks) (λ_ _ q=>Aa6 _ q) (Aa7 _)
  (cY4 .nil (Co _) (beq_eq_false_iff_ne.mpr (Ne.symm (Ab9 I.big'))) (Ac3 _ rfl) ⟨rfl,rfl,rfl⟩ rfl rfl List.nodup_nil),rfl,h _ (I.hok.fresh (Aa7 _))⟩⟩
def cT0 (K:Frag)(td ty tv:TE):TS:=λD σ H=>tv σ H λv H1=>td σ H1 λx H2=>ty σ H2 λy H3=>∃a b ks kv,x=.ref a/\y=.ref b/\SqT K H3 b (ks.map V.int)/\H3 a=some (dicO a kv)/\dA3 K H3 kv/\kv.length<sizeLine/\D.nx σ (upd H3 a (dicO a (bP1 kv ks b v)))
theorem dA0 (K:Frag)(hr:Room k X.A)(ho:PE X o td)(hi:PE X i ty)(hv:PE X value tv)(hs:swapsWith value (some (.Subscript o i pos')) pos.line X.env=pure false:=by rfl)(h:X.K=K:=by rfl) :
  PS X (.Assign [.Subscript o i pos'] value pos) (cT0 K td ty tv):=by
 subst h;refine⟨?_⟩;intro Y s σ H D I h;refine wpAny_Assign_Subscript (thn (hv Y s σ H _ I h) λr s1 ⟨v,F,P,rv,q1⟩=>thn (ho Y s1 σ F _ P q1) λu s2 ⟨x,B,I2,rx,q2⟩=>thn (hi Y s2 σ B _ I2 q2) λiv s3 ⟨y,H3,j,ry,a,b,Q,kv,ex,ey,J,N,hk,hl,q3⟩=>?_) hs
 subst ex ey;obtain rfl:u=Value.ref a:=rx;obtain rfl:iv=Value.ref b:=ry;obtain⟨xs,w,z,hd,dd⟩:=dS4 j N hk;have hz:xs.length<=sizeLine:=by rw[<- Paired.length w];exact z
 refine wpAny_setItem_heap (hsz:=hz) (tupleKind_room_in1 (by have:=hr.un;lia)) (bZ4 j J) dd λh' U M=>⟨σ,_,?_,q3⟩
 obtain⟨q,es,ep,R,h2,h3,h4,_,h5⟩:=U;have hp:=dN4 kv Q b v;exact j.write (x:=a) (e:=a) (by rw[N];exact True.intro) (.inl rfl) (λc q J z=>(M.2 c J).trans z) ⟨q,R⟩ (cY4 (KvR.put w Q b rv) (by lia) hd R h2 h3 h4 h5)
end L2
namespace LV
open PySem L2
section
variable {K:Frag}{ρ:List Sl}{m:Bool}{ta tb tv:TE}{d:PyData}{ks:AD}{kvs:List (AD×PyData)}
def aT3 (kvs:List (AD×PyData))(k:AD)(d:PyData):List (AD×PyData):=
 if kvs.any (λx=>decide (x.1=k)) then kvs.map (λx=>if x.1=k then(x.1,d) else x) else kvs++[(k,d)]
theorem bE3:∀{kv:List (AD×Addr×V)} {kvs:List (AD×PyData)},kv.map (·.1)=kvs.map (·.1)->Reps K Z (kv.map λx=>V.ref x.2.1) (kvs.map λx=>PyData.tuple (x.1.map PyData.int))->dA3 K Z kv
 | [],_,_,_=>λz hz=>by cases hz
 | x::kv,[],e,_=>by simp at e
 | x::kv,y::kvs,e,r=>by
  simp only[Ac7,Ax]at e r;cases r with
  | cons a b=>
   intro z hz;rcases Aa1.mp hz with rfl | hz
   .cases a with
    | tup s q=>rw[e.1,<- Reps.ints q];exact s
   .exact bE3 e.2 b z hz
theorem bW0 (h:dA3 K H kv)(s:Same H H'):dA3 K H' kv:=λz e=>G8 s (h z e)
theorem bY0:∀{kv:List (AD×Addr×V)} {kvs:List (AD×PyData)},kv.map (·.1)=kvs.map (·.1)->(atK kv ks).isSome=kvs.any λx=>decide (x.1=ks)
 | [],[],_=>rfl
 | [],_::_,e=>by simp at e
 | _::_,[],e=>by simp at e
 | x::kv,y::kvs,e=>by
  simp only[Ac7,Ax]at e;have ih:=bY0 e.2;unfold atK at ih ⊢;rw[Aq,List.any_cons,e.1];by_cases h:y.1=ks
  .simp[h]
  .simp[h];simpa using ih
theorem cO9:EFT K cU8 ρ (.dic []):=λS B σ H o I Q q p hp=>
 q (.ref p) [p] _ (G0 hp) (λb e=>by rw[Ad8.mp e];exact hp) (by simp) (.dic C4 rfl .nil .nil)
theorem dZ7 (Y:E K false ta ρ (.tuple (ks.map PyData.int)))(h:ρ[i]? = some (.tr (.dic kvs))):E K m (tOp (dK4 K neg) ta (C7 i)) ρ (.bool (xor neg (kvs.any λx=>decide (x.1=ks)))):=E.bor (E.imm (m:=false) λS B σ H o I Q q=>Y S B σ H o I _ λv j w X=>by
 obtain⟨_,u,a,b⟩:=(I.grow w).tr i _ h;refine⟨u,a,?_⟩;generalize o i=L at b;cases b with
 | @dic p kv _ e k r2 r3=>
  cases X with
  | @tup b xs _ s r=>
   rw[Reps.ints r]at s;refine⟨b,p,ks,kv,rfl,s,rfl,e,bW0 (bE3 k r2) X1,?_⟩;rw[bY0 k];exact q _ j w (.bl _))
theorem bT4 (Y:Rep K Z v d):∀{kv:List (AD×Addr×V)} {kvs:List (AD×PyData)},kv.map (·.1)=kvs.map (·.1)->Reps K Z (kv.map λx=>V.ref x.2.1) (kvs.map λx=>PyData.tuple (x.1.map PyData.int))->Reps K Z (kv.map (·.2.2)) (kvs.map (·.2)) ->
  (kv.map λx=>if x.1=ks then(x.1,x.2.1,v) else x).map (·.1)=(kvs.map λx=>if x.1=ks then(x.1,d) else x).map (·.1) /\
  Reps K Z ((kv.map λx=>if x.1=ks then(x.1,x.2.1,v) else x).map λx=>V.ref x.2.1) ((kvs.map λx=>if x.1=ks then(x.1,d) else x).map λx=>PyData.tuple (x.1.map PyData.int)) /\
  Reps K Z ((kv.map λx=>if x.1=ks then(x.1,x.2.1,v) else x).map (·.2.2)) ((kvs.map λx=>if x.1=ks then(x.1,d) else x).map (·.2))
 | [],[],_,_,_=>⟨rfl,.nil,.nil⟩
 | [],_::_,e,_,_=>by simp at e
 | _::_,[],e,_,_=>by simp at e
 | x::kv,y::kvs,e,r1,r2=>by
  simp only[Ac7,Ax]at e r1 r2;cases r1 with
  | cons r U=>
   cases r2 with
   | cons X J=>
    obtain⟨h1,j,s⟩:=bT4 Y e.2 U J;simp only[Ac7];by_cases h:y.1=ks
    .have w:x.1=ks:=e.1.trans h
     rw[Ac h,Ac w];exact⟨by rw[h1];simp[h,w],.cons r j,.cons Y s⟩
    .have w:¬x.1=ks:=λz=>h (e.1.symm.trans z)
     rw[Ab h,Ab w];exact⟨by rw[h1,e.1],.cons r j,.cons X s⟩
theorem dM0 (j:Rep K Z v d)(rb:Rep K Z (.ref b) (.tuple (ks.map PyData.int)))(e:kv.map (·.1)=kvs.map (·.1))(w:Reps K Z (kv.map λx=>V.ref x.2.1) (kvs.map λx=>PyData.tuple (x.1.map PyData.int)))(r:Reps K Z (kv.map (·.2.2)) (kvs.map (·.2))) :
  (bP1 kv ks b v).map (·.1)=(aT3 kvs ks d).map (·.1)/\Reps K Z ((bP1 kv ks b v).map λx=>V.ref x.2.1) ((aT3 kvs ks d).map λx=>PyData.tuple (x.1.map PyData.int))/\Reps K Z ((bP1 kv ks b v).map (·.2.2)) ((aT3 kvs ks d).map (·.2)):=by
 unfold bP1 aT3;rw[bY0 e];split
 .exact bT4 j e w r
 .simp only[Ad2,Ac7,By];exact⟨by rw[e],w.append (.cons rb .nil),r.append (.cons j .nil)⟩
theorem dJ2 (hv:E K true tv ρ d)(hi:ρ[i]? = some (.tr (.dic kvs)))(hk:E K true tb ρ (.tuple (ks.map PyData.int)))(hl:kvs.length<sizeLine)(hn:R.nx (ρ.set i (.tr (.dic (aT3 kvs ks d)))))(nb:i7 ρ=true:=by rfl) :
  W K (cT0 K (C7 i) tb tv) ρ R:=λS B D σ H o I s=>hv S B σ H o I _ λv H1 M rv=>by
 obtain⟨Y,u,a,b⟩:=(I.grow M).tr i _ hi;refine⟨u,a,hk S B σ H1 o (I.grow M) _ λy w s2 ry=>?_⟩
 have Q:=(I.grow M).grow s2
 obtain⟨Y,u2,F,b2⟩:=Q.tr i _ hi;rw[a]at F;cases F;have j:i<ρ.length:=(Ab0.mp hi).1;generalize ho:o i=L at b2;cases b2 with
 | @dic p kv _ e k r2 r3=>
  cases ry with
  | @tup q xs _ sq r=>
   have hq:=Reps.ints r
   have N:SqT K w q (ks.map V.int):=by rw[<- hq];exact G8 X1 sq
   have len:kv.length=kvs.length:=by have:=congrArg List.length k;simpa using this
   refine⟨p,q,ks,kv,rfl,rfl,N,e,bW0 (bE3 k r2) X1,by lia,?_⟩
   have J:Rep K (hid (F1 ρ o S) w) v d:=rv.mono (bK2 (m:=true) s2)
   obtain⟨k',X,U⟩:=dM0 J (b:=q) (.tup (by rw[<- hq];exact sq) (aC6 ks)) k r2 r3
   have oi:dA1 ρ o i p:=⟨_,hi,rfl,by rw[ho];simp⟩
   have os:F1 ρ o S p:=.inr ⟨i,_,hi,rfl,by rw[ho];simp⟩
   have g:Same (hid (F1 ρ o S) w) (hid (λb=>F1 ρ o S b\/b∈[p]) (upd w p (dicO p (bP1 kv ks q v)))):=λc y z=>by
    obtain⟨q1,q2⟩:=hid_some.mp z;refine hid_some.mpr ⟨λz=>q1 (z.elim id λz=>by rw[Ad8.mp z];exact os),?_⟩
    rw[B6 (λz=>q1 (by rw[z];exact os))];exact q2
   have P:=Q.put (H':=upd w p (dicO p (bP1 kv ks q v))) (v:=.ref p) (x:=.tr (.dic (aT3 kvs ks d))) (L:=[p]) i j (λb=>b=p) (λb z=>by rw[z];exact oi) (λb y q z=>by rw[B6 z];exact q) (λb z=>.inl (by rw[Ad8.mp z];exact oi))
    (.inr ⟨_,rfl,by simp,.dic C4 k' (X.mono g) (U.mono g)⟩) (.inr (O8 nb))
   rw[bL5 a]at P;exact s.nx _ _ _ _ P hn
end
theorem dQ0 (kvs:List (AD×PyData))(k w:AD)(d:PyData):(aT3 kvs k d).any (λx=>decide (x.1=w))=(kvs.any (λx=>decide (x.1=w))||decide (k=w)):=by
 unfold aT3;split
 .rename_i h;have e:(kvs.map λx=>if x.1=k then(x.1,d) else x).any (λx=>decide (x.1=w))=kvs.any (λx=>decide (x.1=w)):=by
   rw[List.any_map]
   congr 1
   funext x
   simp only[Function.comp];split <;> rfl
  rw[e];by_cases r:k=w
  .subst r;rw[h];rfl
  .simp[r]
 .simp
theorem dF5 (kvs:List (AD×PyData))(k:AD)(d:PyData):(aT3 kvs k d).length<=kvs.length+1:=by
 unfold aT3;split <;> simp
end LV
namespace L2
open PySem PySem.Spec PyProof.Rows
end L2
namespace LV
open PySem L2
section
theorem cW4:∀(u v:AD),u.map PyData.int=v.map PyData.int->u=v
 | [],[],_=>rfl
 | [],_::_,h=>by simp at h
 | _::_,[],h=>by simp at h
 | a::u,b::v,h=>by simp at h;rw[h.1,cW4 u v h.2]
end
end LV
namespace PySem
open PySem.Spec PyProof.Rows PySem.W
end PySem
namespace L2
open PySem PySem.Spec PyProof.Rows PySem.W
end L2
namespace PySem
open PySem.Spec PyProof.Rows
end PySem
namespace L2
open PySem PySem.Spec PyProof.Rows PySem.W
end L2
namespace LV
open PySem L2
end LV
namespace L2
open PySem PySem.Spec PyProof.Rows
end L2
namespace LV
open PySem PyProof.Rows L2
end LV
namespace L2
open PySem PySem.Spec PyProof.Rows
structure InC (K:Frag)(C:Addr):Prop where
 ha:PySem.W.findIn K (.ref C) "__class__" = some (some (.builtin "object.__class__"))
 hn:PySem.W.specialIn K (.builtin "object.__class__") "__get__" = some (some (.builtin "getset_descriptor.__get__"))
 htk:PySem.W.takesIn K (.builtin "object.__class__")=some true
 hm:PySem.W.mroIn K C (.type "object")=some true
theorem dV7 (K:Frag)(r:PE X e ta)(w:attributeBase e f X.env (eval e X.env)=eval e X.env)(h:X.K=K:=by rfl):PE X (.Attribute e f pos) (aI6 K ta f):=h▸J8 r w
section
def dU7 (C:Addr)(ns:AH):Sp:=λvs H Q _=>∃(x dx:Addr) (is:AD),is.length=ns.length/\vs=.ref x::is.map V.int/\H x=some (.ins C dx [])/\Q .non (upd H x (.ins C dx ((ns.zip is).map λz=>(z.1,V.int z.2))))
end
end L2
namespace LV
open PySem PySem.Spec PyProof.Rows L2
section
variable {K:Frag}{ρ:List Sl}{m:Bool}{ta tb tc:TE}{t:TA}{d:PyData}{ds:AF}{C:Addr}{fs:List (Str×Int)}
theorem bJ5 (r:Rep K H v (inD C fs)):∃a dx,v=.ref a/\H a=some (.ins C dx (fs.map λx=>(x.1,V.int x.2))):=by
 unfold inD at r;generalize s:(PyData.dict ((PyData.int (C:Nat),PyData.bool true)::fs.map λx=>(PyData.str x.1,PyData.int x.2)))=d at r
 cases r with
 | @ins a C' dx w e=>
  injection s with h
  simp only[Ax,Dk,PyData.int.injEq,and_true]at h;obtain⟨h1,j⟩:=h;have Y:C=C':=Int.ofNat_inj.mp h1;have X:fs=w:=by
   clear e
   induction fs generalizing w with
   | nil=>cases w with | nil=>rfl | cons _ _=>simp at j
   | cons x fs U=>
    cases w with
    | nil=>simp at j
    | cons y w=>
     simp only[Ac7,Ax,Dk,PyData.str.injEq,PyData.int.injEq]at j;rw[U j.2,Prod.ext j.1.1 j.1.2]
  subst Y X;exact⟨_,_,rfl,e⟩
 | @dic _ _ kvs _ _ _ z=>injection s with h;rw[z]at h;cases kvs <;> simp[dM8]at h
 | _=>cases s
theorem aJ9 (f:Str):∀fs:List (Str×Int),(fs.map λx=>(x.1,V.int x.2)).lookup f=(fs.lookup f).map V.int
 | []=>rfl
 | x::fs=>by
  show List.lookup f ((x.1,V.int x.2)::fs.map λx=>(x.1,V.int x.2))=(List.lookup f ((x.1,x.2)::fs)).map V.int
  rw[List.lookup_cons,List.lookup_cons];cases f==x.1 with
  | true=>rfl
  | false=>exact aJ9 f fs
theorem U0 (j:E K false ta ρ (inD C fs))(cl:Cls K C)(n:NoAttr K C f)(l:fs.lookup f=some v):E K m (aI6 K ta f) ρ (.int v):=E.bor (E.imm (m:=false) λS B σ H o I Q q=>j S B σ H o I _ λx w s r=>by
 obtain⟨a,dx,rfl,e⟩:=bJ5 r;exact⟨a,C,dx,_,.int v,rfl,e,cl,n,by rw[aJ9,l];rfl,q _ w s (.int _)⟩)
theorem aG6 (N:A K false t ρ (is.map PyData.int))(R:is.length=ns.length):E K m (eB3 C (dU7 C ns) [] X t) ρ (inD C (ns.zip is)):=E.bor λS B σ H o I Q q=>N S B σ H o I _ λvs U Y r=>by
 have r:=r.ints
 subst r;intro x dx s w ne;have J:=G0 (o:=.own x) w;have j:upd U dx (.own x) x=none:=by rw[B6 λe=>ne e.symm];exact s
 refine⟨x,dx,is,R,by rw[Ba],C4,rfl,?_⟩
 rw[bK3];have M:=G0 (o:=.ins C dx ((ns.zip is).map λz=>(z.1,V.int z.2))) j
 have g:=L2.Same.tr Y (L2.Same.tr J M)
 refine q _ _ g (.ins (hid_some.mpr ⟨λz=>?_,C4⟩))
 obtain⟨u,e⟩:=(I.grow Y).lists x z;rw[s]at e;cases e
end
section
variable {K:Frag}{ρ:List Sl}{m:Bool}{ta tb tc td ty tx tk tv:TE}{kvs:List (Int×AD)}{trs:List (TE×TE)}
def AP (K:Frag)(trs:List (TE×TE))(ρ:List Sl)(kvs:List (Int×AD)):Prop:=
 ∀(S:Addr->Prop) (B:Hp) (σ:L2.St) (H:Hp) (o:Nat->AL),Env K S B H σ ρ o->∀Q:List (V×V)->Hp->Prop,(∀kv H',Same H H'->DiF K (hid (F1 ρ o S) H') kv kvs->Q (kv.map λx=>(V.int x.1,V.ref x.2)) H')->cE6 trs σ H Q
theorem dM9:AP K [] ρ []:=λS B σ H o I Q q=>q [] H (L2.Same.rf _) .nil
theorem aH8 (X:E K false tk ρ (.int k))(J:E K true tv ρ (tI is))(U:AP K trs ρ kvs):AP K ((tk,tv)::trs) ρ ((k,is)::kvs):=λS B σ H o I Q q=>
 X S B σ H o I _ λx j e M=>J S B σ j o (I.grow e) _ λy s w N=>U S B σ s o ((I.grow e).grow w) _ λkv Y r R=>by
  cases M
  cases N with
  | @tup b xs _ sq rr=>
   rw[rr.ints]at sq;exact q ((k,b)::kv) Y (L2.Same.tr e (L2.Same.tr w r)) (.cons ⟨rfl,G8 (L7 r) sq⟩ R)
def diA (kvs:List (Int×AD))(k:Int):Option AD:=(kvs.find? λx=>decide (x.1=k)).map (·.2)
theorem eG0 {H:Hp}{k:Int}{kv:List (Int×Addr)}(r:DiF K H kv kvs):(diA kvs k=none/\aX2 (kv.map λx=>((Sum.inl x.1:L2.Key),V.ref x.2)) (Sum.inl k)=none)\/∃b is,diA kvs k=some is/\aX2 (kv.map λx=>((Sum.inl x.1:L2.Key),V.ref x.2)) (Sum.inl k)=some (.ref b)/\SqT K H b (is.map V.int):=by
 unfold DiF at r;induction r with
 | nil=>exact .inl ⟨rfl,rfl⟩
 | @cons x y kv' kvs' h t ih=>
  rw[Ac7];by_cases e:y.1=k
  .refine .inr ⟨x.2,y.2,?_,?_,h.2⟩
   .unfold diA;simp[Aq,e]
   .exact bN8 (by show(Sum.inl x.1:L2.Key)=Sum.inl k;rw[h.1,e])
  .have w:diA (y::kvs') k=diA kvs' k:=by unfold diA;simp[Aq,e]
   have j:aX2 (((Sum.inl x.1:L2.Key),V.ref x.2)::kv'.map λx=>((Sum.inl x.1:L2.Key),V.ref x.2)) (Sum.inl k)=aX2 (kv'.map λx=>((Sum.inl x.1:L2.Key),V.ref x.2)) (Sum.inl k):=bN9 (by intro z;exact e (h.1▸Sum.inl.inj z))
   rw[w,j];exact ih
theorem dP7 (r:DiF K H kv kvs):kv.map (·.1)=kvs.map (·.1):=by
 unfold DiF at r;induction r with
 | nil=>rfl
 | cons h _ e=>rw[Ac7,Ac7,e,h.1]
theorem bV5:∀(more acc:List (L2.Key×V)),((acc++more).map (·.1)).Nodup->aL6 acc more=acc++more
 | [],acc,_=>by rw[Ba];rfl
 | p::more,acc,nd=>by
  show aL6 (bP7 acc p.1 p.2) more=_
  have hn:(acc.any λkv=>decide (kv.1=p.1))=false:=by
   rw[List.any_eq_false];intro z hz e;rw[Ad2,Aa4]at nd;exact nd.2.2 z.1 (Aa8.mpr ⟨z,hz,rfl⟩) p.1 (by simp) (Aj e)
  have e:bP7 acc p.1 p.2=acc++[p]:=by unfold bP7;rw[Ab (by rw[hn];decide)]
  rw[e,bV5 more (acc++[p]) (by rw[Ad7];exact nd),Ad7];rfl
theorem dH2 (h:AP K trs ρ kvs)(nd:(kvs.map (·.1)).Nodup)(R:kvs.length<=15):E K m (eF3 trs) ρ (diD kvs):=E.bor λS B σ H o I Q q=>by
 intro p hp;have N:=G0 (o:=.dK []) hp;refine h S B σ _ o (I.grow N) _ λkv j M r=>?_
 have U:=dP7 r
 have w:kv.length=kvs.length:=by have:=congrArg List.length U;simpa using this
 have F:aL6 [] (kv.map λx=>((Sum.inl x.1:L2.Key),V.ref x.2))=kv.map λx=>((Sum.inl x.1:L2.Key),V.ref x.2):=by
  rw[bV5 _ _ ?_]
  .rfl
  .rw[List.nil_append,Ae2];rw[<- U]at nd;rw[Ac6,Ae0]at nd ⊢;exact nd.imp λh e=>h (Sum.inl.inj e)
 refine⟨M _ _ C4,kv.map λx=>((Sum.inl x.1:L2.Key),V.ref x.2),by rw[Ae2];rfl,by rw[Aa3,w];exact R,?_⟩
 rw[F];have P:Same H (upd j p (.dK (kv.map λx=>((Sum.inl x.1:L2.Key),V.ref x.2)))):=λb x e=>by
  have ne:b≠p:=λz=>by rw[z,hp]at e;cases e
  rw[B6 ne];exact M b x (N b x e)
 have np:¬F1 ρ o S p:=λz=>by obtain⟨u,e⟩:=I.lists p z;rw[hp]at e;cases e
 refine q _ _ P (.dki (hid_some.mpr ⟨np,C4⟩) ?_);unfold DiF at r ⊢;have X:∀(b:Addr) (xs:List V),SqT K (hid (F1 ρ o S) j) b xs->SqT K (hid (F1 ρ o S) (upd j p (.dK (kv.map λx=>((Sum.inl x.1:L2.Key),V.ref x.2))))) b xs:=λb xs sq=>by
  have rd:∀u,Rd (hid (F1 ρ o S) j) b (.tup u)->Rd (hid (F1 ρ o S) (upd j p (.dK (kv.map λx=>((Sum.inl x.1:L2.Key),V.ref x.2))))) b (.tup u):=λu r=>by
   have Y:j p=some (.dK []):=M _ _ C4
   rcases r with r | ⟨o',r⟩
   .obtain⟨J,s⟩:=hid_some.mp r;have ne:b≠p:=λz=>by rw[z,Y]at s;cases s
    exact .inl (hid_some.mpr ⟨J,by rw[B6 ne];exact s⟩)
   .obtain⟨J,s⟩:=hid_some.mp r;have ne:b≠p:=λz=>by rw[z,Y]at s;cases s
    exact .inr ⟨o',hid_some.mpr ⟨J,by rw[B6 ne];exact s⟩⟩
  exact sq.imp (rd _) id
 clear F P U w
 generalize upd j p (.dK (kv.map λx=>((Sum.inl x.1:L2.Key),V.ref x.2)))=H3 at X
 clear nd R h q
 induction r with
 | nil=>exact .nil
 | cons a _ ih=>exact .cons ⟨a.1,X _ _ a.2⟩ ih
theorem eA9 {H:Hp}{v:V}(r:Rep K H v (diD kvs)):∃a kv,v=.ref a/\H a=some (.dK (kv.map λx=>((Sum.inl x.1:L2.Key),V.ref x.2)))/\DiF K H kv kvs:=by
 unfold diD at r;generalize w:(PyData.dict ((PyData.bool true,PyData.none)::kvs.map λx=>(PyData.int x.1,PyData.tuple (x.2.map PyData.int))))=d at r
 cases r with
 | @dki a kv kvs' e f=>
  injection w with h
  simp only[Ax,true_and]at h;have j:kvs=kvs':=by
   clear e f
   induction kvs generalizing kvs' with
   | nil=>cases kvs' with | nil=>rfl | cons _ _=>simp at h
   | cons x fs Y=>
    cases kvs' with
    | nil=>simp at h
    | cons y s=>
     simp only[Ac7,Ax,Dk,PyData.int.injEq,PyData.tuple.injEq]at h;rw[Y h.2,Prod.ext h.1.1 (cW4 _ _ h.1.2)]
  subst j;exact⟨_,_,rfl,e,f⟩
 | @dic _ _ kvs' _ _ _ z=>injection w with h;rw[z]at h;cases kvs' <;> simp[dM8]at h
 | _=>cases w
theorem eN2 {k:Int}{is:AD}(R:E K false td ρ (diD kvs))(P:E K false ty ρ (.int k))(F:E K false tx ρ (tI is)):E K m (dP0 td ty tx) ρ (tI ((diA kvs k).getD is)):=E.bor (E.imm (m:=false) (λS B σ H o I Q q=>R S B σ H o I _ λv j Y r=>by
 obtain⟨a,kv,rfl,e,f⟩:=eA9 r;have e:j a=some (.dK (kv.map λx=>((Sum.inl x.1:L2.Key),V.ref x.2))):=e
 have f:DiF K j kv kvs:=f
 refine⟨a,rfl,.inl ⟨_,.inl e⟩,P S B σ j o (I.grow Y) _ λy M U r2=>F S B σ M o ((I.grow Y).grow U) _ λz X s3 r3=>?_⟩
 cases r2
 have w:=L2.Same.tr U s3
 refine⟨_,DGet.k (k:=Sum.inl k) (w _ _ e),?_⟩;have J:=L2.Same.tr Y w;rcases eG0 (k:=k) f with⟨h1,s⟩ | ⟨b,is',h1,s,N⟩
 .rw[s];rw[h1]at q;exact q _ X J r3
 .rw[s];rw[h1]at q;exact q _ X J (.tup (G8 w N) (aC6 _))) (dO9 _))
end
end LV
namespace PySem
open PySem.Spec PyProof.Rows PySem.W
end PySem
namespace L2
open PySem PySem.Spec PyProof.Rows PySem.W
end L2
namespace LV
open PySem L2
open Att PyProof.Rows PySem.Calls PySem.Spec PySem.W
end LV
namespace L2
open PySem PySem.Spec PySem.W PyProof.Rows
end L2
namespace L2
open PySem PySem.Spec PyProof.Rows
section
variable {X:Cx}{f:Str}{ta tv:TE}{e:Expr}{pos:Pos}
def tXn (K:Frag)(ta:TE)(f:Str):TE:=λσ H Q=>ta σ H λx H1=>∃a C dx fs v,x=.ref a/\H1 a=some (aC3 a C (some dx))/\H1 dx=some (.xd fs)/\dA4 K C/\PySem.W.hasDictIn K C=true/\PySem.W.findIn K (.ref C) f=some none/\fs.lookup f=some v/\Q v H1
theorem eP9 (K:Frag)(he:PE X e ta)(hb:attributeBase e f X.env (eval e X.env)=eval e X.env:=by rfl)(hK:X.K=K:=by rfl):PE X (.Attribute e f pos) (tXn K ta f):=by
 subst hK;refine⟨?_⟩;intro N s σ H Q I h;refine bZ5 hb (thn (he N s σ H _ I h) λu U ⟨x,M,w,rx,a,C,dx,fs,v,B,R,F,c,hd,n,l,q⟩=>?_)
 subst B;obtain rfl:u=Value.ref a:=rx;obtain⟨t0,sl,P⟩:=(w.hok a _ R).1;obtain⟨r,ns,j⟩:∃r,U.heap.Ns1 dx r/\∀f,RelO (fs.lookup f) (r f):=w.hok dx _ F;obtain⟨od,ho,hl⟩:=bD4 ns;obtain⟨u,hu,Y⟩:=RelO.some_of (v:=v) (o:=r f) (by rw[<- l];exact j f)
 have J:PySem.W.InstAt U.heap a _ C (some od):=⟨P,rfl,rfl,ho⟩
 exact cY7 w.kIn J c (PySem.W.findObj_own hd n rfl (by rw[hl,hu])) (bG0 Y) ⟨v,M,w.tok _,Y,q⟩
def dL9 (K:Frag)(xs:List V)(H:Hp)(Q:VK):Prop:=∃a C d y,xs=[.ref a,y]/\H a=some (excD a C d)/\XAt K C/\XCl K C/\((∃b,XIs K C y b/\Q (.bl b) H)\/∃p ys bs,y=.ref p/\SqT K H p ys/\dE9 K C ys bs/\Q (.bl (bs.any id)) H)
theorem j6 (K:Frag)(hK:X.K=K:=by rfl):m6 X (.builtin "isinstance") (dL9 K):=by
 subst hK;intro bA s σ H xs us Q I r h;obtain⟨a,C,d,y,rfl,ha,XA,U,h⟩:=h;obtain⟨⟨o,vs,ho,F,_⟩,_,_⟩:=I.hok a _ ha;have j:bI5 X.K a C s:=⟨I.kIn,o,ho,F⟩;cases r with
 | cons r1 r2=>
  cases r2 with
  | cons r3 r4=>
   cases r4;cases r1
   rcases h with⟨b,hy,q⟩ | ⟨p,ys,bs,rfl,hp,P,q⟩
   .exact Az (S:=λ_ R s=>bI5 X.K a C s/\∀w,R (.ok (.ret (.bool b))) {s with toks:=w}) (λ_ _ _ _ _ Y=>isinstance_outer (bC2 XA U r3 hy _ _ _ _ _ _ _ Y) (by intro q;cases q)) ⟨j,λw=>⟨.bl b,H,I.tok _,rfl,q⟩⟩
   .cases r3
    obtain⟨its,rv,tp,_⟩:=I.tuple hp;have M:p≠C:=λz=>by
     subst z;have J:=U.cls;unfold PySem.W.clsIn at J;split at J
     .rename_i c' d' cd' sl' N;obtain⟨ot,ht,_,n,B⟩:=tp;rw[I.kIn _ _ N]at ht;cases ht;cases B
     .cases J
    exact Az (S:=λ_ R s=>(bI5 X.K a C s/\IsTup s.heap p its.toArray)/\∀w,R (.ok (.ret (.bool (bs.any id)))) {s with toks:=w}) (λ_ _ _ _ _ Y=>isinstance_outer (cM2 Y.1.1 Y.1.2 M (cG3 XA U rv P) λw=>Y.2 w) (by intro q;cases q)) ⟨⟨j,tp⟩,λw=>⟨.bl _,H,I.tok _,rfl,q⟩⟩
end
end L2
namespace LV
open PySem PySem.Spec PyProof.Rows L2
def dC9:PyData->Bool
 | .tuple ds=>ds.all λd=>(sV d).isSome
 | d=>(sV d).isSome
section
variable {K:Frag}{H:Hp}
theorem dJ8:sV d=some v->Rep K H v d:=λh=>by
 cases d <;> simp[sV]at h <;> subst h <;> constructor
theorem eL1 (r:Rep K H v d)(h:(sV d).isSome=true):sV d=some v:=by
 cases r <;> first | rfl | simp[sV]at h
theorem cU9:∀{ds:AF} {xs:List V},Reps K H xs ds->(ds.all λd=>(sV d).isSome)=true->xs.map some=ds.map sV
 | [],_,r,_=>by cases r;rfl
 | d::ds,_,r,h=>by
  rw[List.all_cons,Ap]at h;cases r with
  | cons a b=>rw[Ac7,Ac7,cU9 b h.2,eL1 a h.1]
theorem cT2:∀{ds:AF} {xs:List V},xs.map some=ds.map sV->Reps K H xs ds
 | [],[],_=>.nil
 | [],_::_,h=>by simp at h
 | _::_,[],h=>by simp at h
 | d::ds,x::xs,h=>by
  simp only[Ac7,Ax]at h;exact .cons (dJ8 h.1.symm) (cT2 h.2)
theorem dZ6 (r:Rep K H v d)(h:dC9 d=true):cJ8 K H v d:=by
 cases r with
 | tup s rs=>exact⟨_,_,rfl,s,cU9 rs h⟩
 | _=>first | rfl | simp[dC9,sV]at h
theorem cI9 (r:cJ8 K H v d):Rep K H v d:=by
 cases d with
 | tuple ds=>
  obtain⟨a,xs,rfl,s,e⟩:=r;exact .tup s (cT2 e)
 | _=>exact dJ8 r
theorem dN5 (h:∀a xs,Rd H a (.tup xs)->Rd H' a (.tup xs))(r:cJ8 K H v d):cJ8 K H' v d:=by
 cases d with
 | tuple ds=>
  obtain⟨a,xs,w,s,e⟩:=r;exact⟨a,xs,w,s.imp (h _ _) id,e⟩
 | _=>exact r
theorem dW3 (h:∀a xs,Rd H a (.tup xs)->Rd H' a (.tup xs))(r:FdF K H vs fs):FdF K H' vs fs:=by
 unfold FdF at *;induction r with
 | nil=>exact .nil
 | cons a _ e=>exact .cons ⟨a.1,dN5 h a.2⟩ e
theorem cK4 (r:FdF K H vs fs)(h:fs.lookup f=some d):∃v,vs.lookup f=some v/\cJ8 K H v d:=by
 unfold FdF at r;induction r with
 | nil=>cases h
 | @cons p q ps qs a _ ih=>
  obtain⟨w,s⟩:=p;obtain⟨Y,X⟩:=q;obtain⟨e,r⟩:=a;dsimp only at e r;subst e;by_cases c:f=w
  .subst c;simp only[List.lookup_cons,beq_self_eq_true]at h ⊢;cases h;exact⟨_,rfl,r⟩
  .have j:(f==w)=false:=by simpa using c
   simp only[List.lookup_cons,j]at h ⊢;exact ih h
theorem cP4 (r:Rep K H v (xfD C fs)):∃a dd vs,v=.ref a/\H a=some (excD a C dd)/\XdA H vs dd/\FdF K H vs fs:=by
 unfold xfD at r;generalize j:(fs.map λx=>((PyData.str x.1,x.2):PyData×PyData))=L at r
 cases r with
 | dic _ _ z=>exact absurd z (by rename_i kvs;cases kvs <;> simp[dM8])
 | @exd a _ dd vs fs' e x r=>
  have w:fs'=fs:=by
   have inj:∀(u v:List (Str×PyData)),(u.map λx=>((PyData.str x.1,x.2):PyData×PyData))=(v.map λx=>(PyData.str x.1,x.2))->u=v:=λu=>by
    induction u with
    | nil=>intro v h;cases v <;> simp at h ⊢
    | cons c u s=>
     intro v h;cases v with
     | nil=>simp at h
     | cons Y v=>
      simp only[Ac7,Ax,Dk,PyData.str.injEq]at h;rw[s v h.2,Prod.ext h.1.1 h.1.2]
   exact inj _ _ j.symm
  subst w;exact⟨a,dd,vs,rfl,e,x,r⟩
end
section
variable {K:Frag}{B:Hp}{ρ ρ':List Sl}{m:Bool}{t:TA}{ta tb:TE}{d d':PyData}{ds es:AF}
def spF (K:Frag)(pre:AF->PyData->Prop)(preX:AF->Addr->List (Str×PyData)->Prop):Sp:=λvs H Q E=>
 ∃ds S,(∀b,S b->∃u:HM,H b=some u.ho)/\Reps K (hid S H) vs ds/\((∃d,pre ds d/\∀v H',Same H H'->Rep K (hid S H') v d->Q v H')\/∃(C:Addr) (fs:List (Str×PyData)),preX ds C fs/\∀(H':Hp) (dd:AK) (vs:List (Str×V)),Same H H'->XdA H' vs dd->FdF K H' vs fs->E (.ref C) dd H')
theorem bD9 (h:∀ds d,pre ds d->ds.length=n)(h':∀ds C fs,preX ds C fs->ds.length=n):∀vs H Q E,spF K pre preX vs H Q E->vs.length=n:=by
 rintro vs H Q E ⟨ds,S,_,r,z⟩;rw[r.length];rcases z with⟨d,p,_⟩ | ⟨C,fs,p,_⟩
 .exact h ds d p
 .exact h' ds C fs p
theorem dU1 (I:Env K S B H σ ρ o)(r:H x=some (L2.excD x C dd))(w:XdA H vs dd)(j:FdF K H vs fs):Rep K (hid (F1 ρ o S) H) (.ref x) (xfD C fs):=by
 refine .exd (d:=dd) (vs:=vs) (hid_some.mpr ⟨λz=>?_,r⟩) ?_ (dW3 (λ_ _ q=>aH0 I.lists q) j)
 .obtain⟨u,e⟩:=I.lists x z;rw[r]at e;exact HM.nd (Ab4 e).symm
 .cases dd with
  | none=>exact w
  | some dx=>
   refine hid_some.mpr ⟨λz=>?_,w⟩
   obtain⟨u,e⟩:=I.lists dx z;have w:H dx=some (.xd vs):=w;rw[w]at e;cases u <;> cases e
theorem dH1 (Y:E K false ta ρ (xfD C fs))(j:XAt K C)(s:XCl K C)(X:XIs K C y b):E K m (tCB (dL9 K) (E7 ta (E7 (tC y) R6))) ρ (.bool b):=E.bor (E.imm (m:=false) λS B σ H o I Q q=>Y S B σ H o I _ λv w U r=>by
 obtain⟨a,J,vs,rfl,e,x,r⟩:=cP4 r;exact⟨_,C,_,y,rfl,e,j,s,.inl ⟨b,X,q _ w U (.bl _)⟩⟩)
theorem eA3 (s:E K false ta ρ (xfD C fs))(w:XAt K C)(j:XCl K C)(Y:∀(σ:L2.St) (H:Hp) (Q:List V->Hp->Prop),Q ys H->tc σ H Q)(U:dE9 K C ys bs)(X:ys.length<=sizeLine:=by decide):E K m (tCB (dL9 K) (E7 ta (E7 (cS5 tc) R6))) ρ (.bool (bs.any id)):=E.bor (E.imm (m:=false) λS B σ H o I Q q=>s S B σ H o I _ λv M J r=>by
 obtain⟨a,N,vs,rfl,e,x,r⟩:=cP4 r;refine Y _ _ _ ⟨X,λp hp=>?_⟩
 have g:=G0 (o:=.tup ys) hp
 exact⟨_,C,_,_,rfl,g _ _ e,w,j,.inr ⟨p,ys,bs,rfl,SqT.of C4,U,q _ _ (L2.Same.tr J g) (.bl _)⟩⟩)
theorem eX6 (Y:E K false ta ρ (xfD C fs))(N:dA4 K C)(X:PySem.W.hasDictIn K C=true)(U:PySem.W.findIn K (.ref C) f=some none)(J:fs.lookup f=some d)(hi:imm d=true:=by rfl):E K m (tXf K ta f) ρ d:=E.bor (E.imm (m:=false) (λS B σ H o I Q q=>Y S B σ H o I _ λv w M r=>by
 obtain⟨a,j,vs,rfl,e,x,r⟩:=cP4 r;obtain⟨u,h1,s⟩:=cK4 r J;cases j with
 | none=>
  have x:vs=[]:=x
  rw[x]at h1;cases h1
 | some dx=>exact⟨a,C,dx,vs,u,rfl,e,x,N,X,U,h1,q u w M (cI9 s)⟩) hi)
def eL7 (C:Addr)(nms:AH):Sp:=λvs H Q _=>∃x xs,vs=.ref x::xs/\xs.length=nms.length/\H x=some (aC3 x C none)/\∀dx H2,H dx=none->dx≠x->H2 x=some (aC3 x C (some dx))->H2 dx=some (.xd (nms.zip xs))->(∀b,b≠x->b≠dx->H2 b=H b)->Q .non H2
theorem bY5:∀{nms:AH} {xs:List V} {ds:AF},xs.length=nms.length->Reps K H xs ds->(∀d∈ds,dC9 d=true)->FdF K H (nms.zip xs) (nms.zip ds)
 | [],_,_,_,_,_=>by simp[FdF];exact .nil
 | n::nms,[],_,h,_,_=>by simp at h
 | n::nms,x::xs,_,h,r,ha=>by
  cases r with
  | cons a b=>
   rw[Dr,Dr];exact .cons ⟨rfl,dZ6 a (ha _ (by simp))⟩ (bY5 (by simpa using h) b λd hd=>ha d (by simp[hd]))
theorem dA9 {C:Addr}{nms:AH}{E':XK}{EX:Addr->Hp->Prop}{R:AE}(ha:A K true t ρ ds)(J:ds.length=nms.length)(hk:∀d∈ds,dC9 d=true)(h3:ds.length<=1000)(hE:∀(H':Hp) (dx:Addr) (vs:List (Str×V)),Same B H'->H' dx=some (.xd vs)->FdF K H' vs (nms.zip ds)->EX dx H') :
  WB K B (cY3 C (eL7 C nms) [] E' EX t) ρ R:=λS D σ H o I s=>
 ha S B σ H o I _ λvs U s1 r=>by
  have w:vs.length=nms.length:=by rw[r.length];exact J
  refine⟨by rw[w,<- J];exact h3,λx hx=>⟨x,vs,by rw[Ba],w,C4,λdx N j X Q F kp=>⟨rfl,x,dx,rfl,Q,?_⟩⟩⟩
  have Y:U dx=none:=by rw[B6 X]at j;exact j
  have M:Same U (drp N x):=λb u e=>by
   have h1:b≠x:=λz=>by rw[z,hx]at e;cases e
   have P:b≠dx:=λz=>by rw[z,Y]at e;cases e
   rw[bL6 h1,kp b h1 P,B6 h1];exact e
  exact hE _ dx _ (L2.Same.tr (I.grow s1).base M) (by rw[bL6 X];exact F) (aC0 M (aC0 X1 (bY5 w r hk)))
theorem eT5 (ha:A K true t ρ ds)(N:ds.length=nms.length)(hk:∀d∈ds,dC9 d=true)(h3:ds.length<=1000)(xg:dA4 K C)(hd:PySem.W.hasDictIn K C=true)(hf:PySem.W.findIn K (.ref C) f=some none)(X:(nms.zip ds).lookup f=some d)(hi:imm d=true) :
  E K m (tXn K (eC2 C (eL7 C nms) [] E' t) f) ρ d:=E.bor (E.imm (m:=false) (λS B σ H o I Q q=>ha S B σ H o I _ λvs J s1 r=>by
  have w:vs.length=nms.length:=by rw[r.length];exact N
  refine⟨by rw[w,<- N];exact h3,λx hx=>⟨x,vs,by rw[Ba],w,C4,λdx M j U F P kp=>⟨rfl,?_⟩⟩⟩
  have s:J dx=none:=by rw[B6 U]at j;exact j
  have R:Same J M:=λb u e=>by
   have h1:b≠x:=λz=>by rw[z,hx]at e;cases e
   have Y:b≠dx:=λz=>by rw[z,s]at e;cases e
   rw[kp b h1 Y,B6 h1];exact e
  have fd:=aC0 R (aC0 X1 (bY5 w r hk))
  obtain⟨u,h1,Y⟩:=cK4 fd X;exact⟨x,C,dx,_,u,rfl,F,P,xg,hd,hf,h1,q u M (L2.Same.tr s1 R) (cI9 Y)⟩) hi)
end
end LV
namespace L2
open PySem PySem.Spec PyProof.Rows
structure eP2 (K:Frag)(C f:Addr):Prop where
 mke:XMk K C f
 ek:cF2 K C
 cl:∃cd,eL2 K C cd
 gt:dA4 K C
 hd:PySem.W.hasDictIn K C=true
 kp:PySem.W.keepIn K (.ref C)=true
section
variable {K:Frag}{C TB f N:Addr}{nm qn:Str}{bs:AG}{hdct:Bool}{sn:AH}{sub:AG}{ab:Bool}{col:Option Bool}{dd:AK}{k0 k1 k2 k3 k5:Option Value}{oI:Obj}
theorem eJ8 (e:K.lookup f=some oI)(hi:PySem.W.isFn K (.ref f)=true):oI.cls=.type "function" := by
 have hi:(Option.map (λx:Obj=>x.cls) (K.lookup f)==some (.type "function"))=true:=hi
 rw[e]at hi
 have:=beq_iff_eq.mp hi
 exact Ab4 this
theorem dY8 (ho:K.lookup C=some (excClassObj nm qn C N bs (.ref TB::bmV) hdct sn sub ab col dd k0 k1 k2 k3 k5 "ValueError.__new__"))(X:PySem.W.excIn K TB bmV "ValueError.__new__" = true)(R:PySem.W.nsOkIn K N=true)(hi:PySem.W.nsIn K N "__init__" = some (some (.ref f)))
  (U:K.lookup f=some oI) (Y:PySem.W.isFn K (.ref f)=true) (F:PySem.W.mroIn K C (.type "object")=some true) (w:PySem.W.hasDictIn K C=true) (B:PySem.W.findIn K (.ref C) "__setattr__" = some (some (.builtin "object.__setattr__")))
  (J:PySem.W.findIn K (.ref C) "__getattribute__" = some (some (.builtin "BaseException.__getattribute__"))) (M:PySem.W.findIn K (.ref C) "__getattr__" = some none) (P:PySem.W.mroIn K C (.type "BaseException")=some true) (Q:PySem.W.keepIn K (.ref C)=true):eP2 K C f:=by
 refine⟨eM7 ho X R hi U (eJ8 U Y),eJ3 ho X,?_,⟨J,M,P⟩,w,Q⟩;obtain⟨r,e⟩:∃r,PySem.W.clsIn K C=some r:=by
  unfold PySem.W.hasDictIn at w;cases h:PySem.W.clsIn K C with
  | none=>rw[h]at w;cases w
  | some r=>exact⟨r,rfl⟩
 refine⟨r,e,λj=>?_,F,?_,B⟩
 .have s:=e
  unfold PySem.W.clsIn at s;rw[ho]at s;cases s;exact cP5 j
 .unfold PySem.W.hasDictIn at w;rw[e]at w;exact w
end
set_option maxHeartbeats 4000000
section
theorem psS (i:Nat){N P:AH}{sc:Scope}{x:Str}{e:Expr}{te:TE}{pos' pos:Pos}(S:B8 N P sc)(r:PE X e te)(w:X.N=N:=by rfl)(hi:N[i]? = some x:=by rfl)(Y:Loc X.env.scope x:=by exact Or.inl rfl)(s:swapsWith e (some (.Name x pos')) pos.line X.env=pure false:=by rfl)(j:X.fn x=true\/X.env.scope.names.lookup x=some .local:=by first | exact .inl rfl | exact .inr rfl | assumption):PS X (.Assign [.Name x pos'] e pos) (u8 te (M8 i)):=by
 subst w;exact cE7 S.nd hi Y r s j
theorem pgN (i:Nat){N P:AH}{sc:Scope}{x:Str}{pos:Pos}(S:B8 N P sc)(e:X.N=N:=by rfl)(hi:N[i]? = some x:=by rfl)(r:Loc X.env.scope x:=by exact Or.inl rfl)(w:X.fn x=true\/X.env.scope.names.lookup x=some .local:=by first | exact .inl rfl | exact .inr rfl | assumption):PG X (.Name x pos) (M8 i):=by
 subst e;exact R5 S.nd hi r w
end
end L2
namespace LV
open PySem L2
section
theorem v0:E K m (C7 0) (.val d::ρ) d:=B0 rfl
theorem v1:E K m (C7 1) (a :: .val d::ρ) d:=B0 rfl
theorem v2:E K m (C7 2) (a::b :: .val d::ρ) d:=B0 rfl
theorem v3:E K m (C7 3) (a::b::c :: .val d::ρ) d:=B0 rfl
theorem v4:E K m (C7 4) (a::b::c::e :: .val d::ρ) d:=B0 rfl
theorem v5:E K m (C7 5) (a::b::c::e::f :: .val d::ρ) d:=B0 rfl
theorem v6:E K m (C7 6) (a::b::c::e::f::g :: .val d::ρ) d:=B0 rfl
theorem v7:E K m (C7 7) (a::b::c::e::f::g::h :: .val d::ρ) d:=B0 rfl
theorem v8:E K m (C7 8) (a::b::c::e::f::g::h::i :: .val d::ρ) d:=B0 rfl
end
abbrev vI (i:Int):Sl:=.val (.int i)
end LV
namespace K09
open PySem L2 LV PyProof.Rows
theorem Y7 {K:Frag}{pre:AF->PyData->Prop}{n:Nat}(h:∀ds d,pre ds d->ds.length=n):∀vs H Q E,spV K pre vs H Q E->vs.length=n:=λvs H Q E ⟨ds,S,d,_,r,p,_⟩=>by
 have e:=r.length
 rw[e];exact h ds d p
@[elab_as_elim] theorem us1 {M:AG->Prop} {us:AG} (hl:us.length=1) (h:∀w,M [w]):M us:=by match us,hl with | [w],_=>exact h _
@[elab_as_elim] theorem us2 {M:AG->Prop} {us:AG} (hl:us.length=2) (h:∀w j,M [w,j]):M us:=by match us,hl with | [w,j],_=>exact h _ _
@[elab_as_elim] theorem us3 {M:AG->Prop} {us:AG} (hl:us.length=3) (h:∀w j s,M [w,j,s]):M us:=by match us,hl with | [w,j,s],_=>exact h _ _ _
@[elab_as_elim] theorem us4 {M:AG->Prop} {us:AG} (hl:us.length=4) (h:∀w j s Y,M [w,j,s,Y]):M us:=by match us,hl with | [w,j,s,Y],_=>exact h _ _ _ _
def top (i:Nat):Stmt:=PySem.Challenge.pw_threetrees_k09_deeds_refused.main.body.getD i (.Pass ⟨0,0,0,0⟩)
abbrev aG1:Stmt:=top 18
abbrev W7:Stmt:=top 19
abbrev aF2:Stmt:=top 20
abbrev aU0:Stmt:=top 21
abbrev aF8:Stmt:=top 22
abbrev aF0:Stmt:=top 23
abbrev cP1:Stmt:=top 24
abbrev bE2:Stmt:=top 25
abbrev cB0:Stmt:=top 26
abbrev aB7:Stmt:=top 27
abbrev u5:Stmt:=top 28
abbrev aH9:Stmt:=top 30
abbrev bD5:Stmt:=top 31
abbrev aG8:Stmt:=top 32
abbrev bD7:Stmt:=top 37
abbrev u6:Stmt:=top 39
abbrev aF9:Stmt:=top 40
abbrev aE1:Stmt:=top 41
abbrev aI0:Stmt:=top 42
abbrev aH1:Stmt:=top 43
abbrev aF4:Stmt:=top 44
abbrev aE4:Stmt:=top 45
abbrev T5:Stmt:=top 46
abbrev aG7:Stmt:=top 47
abbrev aE5:Stmt:=top 48
abbrev aK8:Stmt:=top 49
abbrev aS8:Stmt:=top 50
abbrev aN5:Stmt:=top 51
abbrev u7:Stmt:=top 52
abbrev aT5:Stmt:=top 53
abbrev aG3:Stmt:=top 54
abbrev aS5:Stmt:=top 55
abbrev aF1:Stmt:=top 56
abbrev aT1:Stmt:=top 57
abbrev aJ5:Stmt:=top 58
abbrev aE3:Stmt:=top 59
abbrev dQ4:Stmt:=top 60
abbrev aS7:Stmt:=U8 (top 34) 0
abbrev aE9:Stmt:=U8 (top 34) 2
abbrev aR9:Stmt:=U8 (top 34) 3
abbrev aT9:Stmt:=U8 (top 34) 4
abbrev aK1:Stmt:=U8 (top 35) 0
abbrev aB6:Stmt:=U8 (top 35) 2
abbrev aJ4:Stmt:=U8 (top 35) 3
abbrev aJ6:Stmt:=U8 (top 35) 4
abbrev aI9:Stmt:=U8 (top 36) 0
abbrev y6:Stmt:=U8 (top 36) 2
abbrev aN6:Stmt:=U8 (top 36) 3
abbrev aM1:Stmt:=U8 (top 36) 4
abbrev Y3:Stmt:=U8 (top 5) 0
set_option genInjectivity false in
structure Ad where
 bA0:Addr
 bA6:FuncData
 W5:Addr
 X2:FuncData
 aY6:Addr
 aW1:FuncData
 bP8:Addr
 bL0:FuncData
 aX1:Addr
 aX6:FuncData
 aV5:Addr
 aX3:FuncData
 dH8:Addr
 dR4:FuncData
 bU7:Addr
 bV7:FuncData
 cT1:Addr
 cW9:FuncData
 aQ4:Addr
 aQ9:FuncData
 aM2:Addr
 aM4:FuncData
 aY1:Addr
 bC8:FuncData
 bU6:Addr
 bV9:FuncData
 bB5:Addr
 bD3:FuncData
 bV0:Addr
 bU3:FuncData
 aL8:Addr
 aL4:FuncData
 bB7:Addr
 bA9:FuncData
 aU8:Addr
 aW7:FuncData
 bB1:Addr
 bC9:FuncData
 aE6:Addr
 aG9:FuncData
 aZ0:Addr
 aY7:FuncData
 aU9:Addr
 bB2:FuncData
 m8:Addr
 l8:FuncData
 bB9:Addr
 bB3:FuncData
 aW6:Addr
 aU6:FuncData
 bH8:Addr
 bI0:FuncData
 bO6:Addr
 bO0:FuncData
 bI3:Addr
 bH2:FuncData
 aJ8:Addr
 aN9:FuncData
 bN6:Addr
 bM8:FuncData
 bC6:Addr
 aV1:FuncData
 bP6:Addr
 bQ3:FuncData
 bA2:Addr
 aV4:FuncData
 bP5:Addr
 bM4:FuncData
 bH5:Addr
 bH3:FuncData
 bC7:Addr
 aU5:FuncData
 cY2:Addr
 cH2:FuncData
 E6:Addr
 L5:Addr
 Q1:Addr
 Q0:Addr
 G1:Addr
 M5:Addr
 G4:Addr
 E8:Addr
 K1:Addr
 O4:Addr
 F0:Addr
 O3:Addr
 F7:Addr
 P2:Addr
 aK0:FuncData
 D9:Addr
 T8:Addr
 j9:FuncData
 O7:Addr
 U6:FuncData
 T9:Addr
 j8:FuncData
 T6:Addr
 j4:FuncData
 C8:Addr
 Q9:Addr
 Y0:FuncData
 O0:Addr
 S8:FuncData
 R3:Addr
 Y4:FuncData
 Q8:Addr
 X7:FuncData
 C5:Addr
 Q7:Addr
 X3:FuncData
 M7:Addr
 Q4:FuncData
 R4:Addr
 X6:FuncData
 Q6:Addr
 Y2:FuncData
def Sb (K:Frag)(C:Addr)(L:AG)(B:List Bool):Prop:=∀x∈L.zip B,PySem.W.subIn K (.ref C) x.1=some x.2
theorem B2 {K:Frag}{C:Addr}{L:AG}{B:List Bool}{v:Value}{b:Bool}(h:Sb K C L B)(i:Nat)(e:(L.zip B)[i]? = some (v,b)):PySem.W.subIn K (.ref C) v=some b:=h _ (Bb e)
theorem sb_mk {K:Frag}{C:Addr}{L:AG}{B:List Bool}(h:((L.zip B).all λx=>PySem.W.subIn K (.ref C) x.1==some x.2)=true):Sb K C L B:=λx e=>eq_of_beq (Ac9.mp h x e)
def sbs (a:Ad):AG:=[.ref a.E6,.ref a.L5,.ref a.Q1,.ref a.Q0,.ref a.G1,.ref a.M5,.ref a.G4,.ref a.E8,.ref a.K1,.ref a.O4,.ref a.F0,.ref a.O3,.ref a.F7,.type "ValueError"]
structure Fx (K:Frag)(mg:Str->Option Value)(n:Str)(st:Stmt)(f:Addr)(d:FuncData)(ps:AH):Prop where
 F:Fun K n n st f d
 m:mg n=some (.ref f)
 b:Binds K d ps []
section
theorem pcl {k j:Nat}{f:Addr}{fd:FuncData}{ps:AH}{sp:Sp}{x:Str}{st:Stmt}{e:Expr}{es:AM}{t:TA}{p pos:Pos}(G:FnOk X.prog X.w X.K X.mg X.base CX0 k f fd ps sp)(N:Room j X.A)(F:Fx X.K X.mg x st f fd ps)(Y:PA X (e::es) t)(M:k<=j:=by decide)(J:Gl X x:=by rfl)
  (r:(x==("__debug__" : Str))=false:=by decide) (U:starEach (e::es) X.env=(false,eval e X.env)::starEach es X.env:=by rfl) (s:(backTo pos (starEach es X.env)).any (·.1)=false:=by rfl):PE X (.Call (.Name x p) (e::es) [] pos) (V3 sp [] E0 t):=dZ8 G (N.mono M) J F.m F.F.kp F.b .nil aI4 Y r U s
end
set_option genInjectivity false in
structure Tx (K:Frag)(mg:Str->Option Value)(a:Ad):Prop where
 aZ8:Fx K mg "begun_with" aG1 a.bA0 a.bA6 ["ring", "first"]
 R8:Fx K mg "begun_with_least" W7 a.W5 a.X2 ["ring"]
 aW9:Fx K mg "ways_round" aF2 a.aY6 a.aW1 ["ring"]
 aS2:Fx K mg "ahead_in" aU0 a.bP8 a.bL0 ["turn", "place"]
 aY9:Fx K mg "round_from" aF8 a.aX1 a.aX6 ["turns", "p", "q"]
 aV8:Fx K mg "all_rounds" aF0 a.aV5 a.aX3 ["turns"]
 cE2:Fx K mg "tied" cP1 a.dH8 a.dR4 ["drawing", "p", "q"]
 bG4:Fx K mg "left_of" bE2 a.bU7 a.bV7 ["drawing", "p", "q"]
 cW0:Fx K mg "lands" cB0 a.cT1 a.cW9 ["drawing"]
 aR4:Fx K mg "inner_lands" aB7 a.aQ4 a.aQ9 ["drawing"]
 aK6:Fx K mg "is_inner_tie" u5 a.aM2 a.aM4 ["drawing", "p", "q"]
 U4:Fx K mg "put_behind" aH9 a.aY1 a.bC8 ["turn", "place", "new"]
 aO3:Fx K mg "without" bD5 a.bU6 a.bV9 ["turn", "gone"]
 aF7:Fx K mg "with_turns" aG8 a.bB5 a.bD3 ["drawing", "changes"]
 bT1:Fx K mg "deed_of" bD7 a.bV0 a.bU3 ["told"]
 U2:Fx K mg "_law_cell_at" u6 a.aL8 a.aL4 ["_law_script", "_law_k"]
 i4:Fx K mg "_law_mixed" aF9 a.bB7 a.bA9 ["_law_cell", "_law_k"]
 aY3:Fx K mg "_law_names" aE1 a.aU8 a.aW7 ["_law_cell", "_law_m"]
 aX7:Fx K mg "_law_grown" aI0 a.bB1 a.bC9 ["_law_first", "_law_second"]
 R9:Fx K mg "_law_begun" aH1 a.aE6 a.aG9 ["_law_turn"]
 aW3:Fx K mg "_law_built" aF4 a.aZ0 a.aY7 ["_law_cell", "_law_cells", "_law_m"]
 aV6:Fx K mg "_law_whole" aE4 a.aU9 a.bB2 ["_law_found"]
 k9:Fx K mg "_law_drawing_alike" T5 a.m8 a.l8 ["_law_found", "_law_due_here"]
 p9:Fx K mg "_law_third" aG7 a.bB9 a.bB3 ["_law_turns", "_law_p", "_law_q"]
 aH5:Fx K mg "_law_lands" aE5 a.aW6 a.aU6 ["_law_turns"]
 z7:Fx K mg "_law_with" aK8 a.bH8 a.bI0 ["_law_turn", "_law_ahead", "_law_place"]
 bO5:Fx K mg "_law_put" aS8 a.bO6 a.bO0 ["_law_turns", "_law_land"]
 aK3:Fx K mg "_law_less" aN5 a.bI3 a.bH2 ["_law_turn", "_law_place"]
 aM6:Fx K mg "_law_flipped" u7 a.aJ8 a.aN9 ["_law_turns", "_law_p", "_law_q"]
 X0:Fx K mg "_law_far" aT5 a.bN6 a.bM8 ["_law_cell"]
 aH4:Fx K mg "_law_drawn" aG3 a.bC6 a.aV1 ["_law_drawing", "_law_cell"]
 bO4:Fx K mg "_law_due" aS5 a.bP6 a.bQ3 ["_law_drawing", "_law_told"]
 S3:Fx K mg "_law_kinds" aF1 a.bA2 a.aV4 ["_law_e"]
 aS1:Fx K mg "_law_met" aT1 a.bP5 a.bM4 ["_law_deed", "_law_drawing", "_law_by_back"]
 bH6:Fx K mg "_law_made" aJ5 a.bH5 a.bH3 ["_law_told"]
 aE8:Fx K mg "_law_right" aE3 a.bC7 a.aU5 ["_law_drawing", "_law_told"]
 eF0:Fx K mg "law" dQ4 a.cY2 a.cH2 ["_law_script"]
 aF3:mg "ValueError" = none
 cM7:mg "bool" = none
 aB0:mg "enumerate" = none
 dH0:mg "int" = none
 G9:mg "isinstance" = none
 O9:mg "len" = none
 v9:mg "list" = none
 dQ3:mg "max" = none
 cZ4:mg "min" = none
 O6:mg "range" = none
 aE2:mg "reversed" = none
 aJ7:mg "sorted" = none
 dG1:mg "str" = none
 S5:mg "tuple" = none
 aB4:∃t,mg "MOST_PLACES" = some (.int 10 t)
 t9:∃t,mg "CORNERS" = some (.int 3 t)
 aH6:∃ad,mg "OUTER_LAND" = some (.ref ad)/\∀H,SqT K H ad [.int 0,.int 2,.int 1]
 aW8:mg "TreesError" = some (.ref a.E6)
 eA6:XCl K a.E6
 cL2:mg "NoDrawing" = some (.ref a.L5)
 l5:XCl K a.L5
 dO6:mg "NoRows" = some (.ref a.Q1)
 aM8:XCl K a.Q1
 dO2:mg "NoText" = some (.ref a.Q0)
 aM9:XCl K a.Q0
 cD3:mg "Tied" = some (.ref a.G1)
 bF4:XCl K a.G1
 cS3:mg "NoArrows" = some (.ref a.M5)
 u4:XCl K a.M5
 cG0:mg "NoLand" = some (.ref a.G4)
 aC5:XCl K a.G4
 bV8:mg "NoPlace" = some (.ref a.E8)
 t7:XCl K a.E8
 cU6:mg "NoTie" = some (.ref a.K1)
 aP6:XCl K a.K1
 dK7:mg "NoRing" = some (.ref a.O4)
 aN8:XCl K a.O4
 bX2:mg "TooMany" = some (.ref a.F0)
 t6:XCl K a.F0
 dQ8:mg "NoLine" = some (.ref a.O3)
 aK4:XCl K a.O3
 bR3:mg "NothingDone" = some (.ref a.F7)
 V4:XCl K a.F7
 r9:PySem.W.excIn K a.E6 bmV "ValueError.__new__" = true
 aY8:PySem.W.excIn K a.G4 bmV "ValueError.__new__" = true
 aO5:PySem.W.excIn K a.E8 bmV "ValueError.__new__" = true
 bK9:PySem.W.excIn K a.K1 bmV "ValueError.__new__" = true
 cG9:PySem.W.excIn K a.O4 bmV "ValueError.__new__" = true
 aO9:PySem.W.excIn K a.F0 bmV "ValueError.__new__" = true
 cK8:PySem.W.excIn K a.O3 bmV "ValueError.__new__" = true
 aQ3:PySem.W.excIn K a.F7 bmV "ValueError.__new__" = true
 bO8:XAt K a.G4
 bF0:XAt K a.E8
 bY9:XAt K a.K1
 cO2:XAt K a.G1
 bF1:XAt K a.F0
 E4:Sb K a.G4 (sbs a) [true,false,false,false,false,false,true,false,false,false,false,false,false,true]
 D4:Sb K a.E8 (sbs a) [true,false,false,false,false,false,false,true,false,false,false,false,false,true]
 F9:Sb K a.K1 (sbs a) [true,false,false,false,false,false,false,false,true,false,false,false,false,true]
 K0:Sb K a.G1 (sbs a) [true,false,false,false,true,false,false,false,false,false,false,false,false,true]
 D5:Sb K a.F0 (sbs a) [true,false,false,false,false,false,false,false,false,false,true,false,false,true]
 o7:eP2 K a.G1 a.P2
 Z3:PySem.W.findIn K (.ref a.G1) "pair" = some none
 cG6:Fun K "__init__" "Tied.__init__" Y3 a.P2 a.aK0
 bH0:Binds K a.aK0 ["self", "pair"] []
 bS3:dT4 K a.E6 "ValueError.__init__"
 dI5:mg "Put" = some (.ref a.D9)
 P4:Cls K a.D9
 eY0:InC K a.D9
 aZ7:NoAttr K a.D9 "a"
 aZ2:NoAttr K a.D9 "b"
 bC4:NoAttr K a.D9 "c"
 aF5:Fun K "__init__" "Put.__init__" aS7 a.T8 a.j9
 aT2:Binds K a.j9 ["self", "a", "b", "c"] []
 bM7:Mk K a.D9 a.T8
 i5:Fun K "refuse" "Put.refuse" aE9 a.O7 a.U6
 bB8:Binds K a.U6 ["self", "drawing"] []
 aR8:bC0 K a.D9 "refuse" a.O7
 y0:Fun K "done" "Put.done" aR9 a.T9 a.j8
 cQ1:Binds K a.j8 ["self", "drawing"] []
 cH8:bC0 K a.D9 "done" a.T9
 z0:Fun K "back" "Put.back" aT9 a.T6 a.j4
 cS4:Binds K a.j4 ["self", "drawing"] []
 cH0:bC0 K a.D9 "back" a.T6
 cN6:mg "Take" = some (.ref a.C8)
 W0:Cls K a.C8
 eW4:InC K a.C8
 aD9:NoAttr K a.C8 "p"
 aA9:Fun K "__init__" "Take.__init__" aK1 a.Q9 a.Y0
 aJ2:Binds K a.Y0 ["self", "p"] []
 aW5:Mk K a.C8 a.Q9
 V5:Fun K "refuse" "Take.refuse" aB6 a.O0 a.S8
 aR7:Binds K a.S8 ["self", "drawing"] []
 aN2:bC0 K a.C8 "refuse" a.O0
 n9:Fun K "done" "Take.done" aJ4 a.R3 a.Y4
 cH1:Binds K a.Y4 ["self", "drawing"] []
 cB3:bC0 K a.C8 "done" a.R3
 m9:Fun K "back" "Take.back" aJ6 a.Q8 a.X7
 cG2:Binds K a.X7 ["self", "drawing"] []
 cC9:bC0 K a.C8 "back" a.Q8
 cQ6:mg "Flip" = some (.ref a.C5)
 T0:Cls K a.C5
 eW3:InC K a.C5
 aZ5:NoAttr K a.C5 "p"
 aY2:NoAttr K a.C5 "q"
 aA2:Fun K "__init__" "Flip.__init__" aI9 a.Q7 a.X3
 aN1:Binds K a.X3 ["self", "p", "q"] []
 bA7:Mk K a.C5 a.Q7
 T4:Fun K "new_tie" "Flip.new_tie" y6 a.M7 a.Q4
 aM0:Binds K a.Q4 ["self", "drawing"] []
 aI2:bC0 K a.C5 "new_tie" a.M7
 l9:Fun K "done" "Flip.done" aN6 a.R4 a.X6
 cK9:Binds K a.X6 ["self", "drawing"] []
 cB5:bC0 K a.C5 "done" a.R4
 n8:Fun K "back" "Flip.back" aM1 a.Q6 a.Y2
 cF4:Binds K a.Y2 ["self", "drawing"] []
 cE5:bC0 K a.C5 "back" a.Q6
structure Ex (K:Frag)(n:Str)(c:Addr):Prop where
 n:PySem.W.nsIn K mainGlobals n=some (some (.ref c))
 q:XCl K c
theorem ex_mk {K:Frag}{n:Str}{c:Addr}{cd:ClassData}(a:PySem.W.nsIn K mainGlobals n=some (some (.ref c)))(y:PySem.W.clsIn K c=some cd)(t:PySem.W.typeIn K (.ref c)=some (.type "type")):Ex K n c:=⟨a,by rw[y];rfl,t⟩
structure Fq (K:Frag)(n:Str)(st:Stmt)(f:Addr)(d:FuncData):Prop where
 a:PySem.W.nsIn K mainGlobals n=some (some (.ref f))
 F:Fun K n n st f d
theorem Fq.fx1 {K:Frag}{h:Heap}{mg:Str->Option Value}{n x0:Str}{st:Stmt}{f:Addr}{d:FuncData}(q:Fq K n st f d)(X:K.In h)(G:h.Ns mainGlobals mg)(e:∀(kV doc pm:Value) (an:AK) (cdv ct u0:Value),bindArgs (PySem.W.fnOf n n (aA5 st) (Z6 st) (A9 st) .none kV doc pm an cdv ct) ⟨[u0],[]⟩=pure [(x0,u0)]:=by intros;rfl):Fx K mg n st f d [x0]:=⟨q.F,Au X G q.a,q.F.binds λ_ _ _ _ _ _ r w=>us1 w λu0=>e _ _ _ _ _ _ u0⟩
theorem Fq.fx2 {K:Frag}{h:Heap}{mg:Str->Option Value}{n x0 x1:Str}{st:Stmt}{f:Addr}{d:FuncData}(q:Fq K n st f d)(X:K.In h)(G:h.Ns mainGlobals mg)(e:∀(kV doc pm:Value) (an:AK) (cdv ct u0 u1:Value),bindArgs (PySem.W.fnOf n n (aA5 st) (Z6 st) (A9 st) .none kV doc pm an cdv ct) ⟨[u0,u1],[]⟩=pure [(x0,u0),(x1,u1)]:=by intros;rfl):Fx K mg n st f d [x0,x1]:=⟨q.F,Au X G q.a,q.F.binds λ_ _ _ _ _ _ r w=>us2 w λu0 u1=>e _ _ _ _ _ _ u0 u1⟩
theorem Fq.fx3 {K:Frag}{h:Heap}{mg:Str->Option Value}{n x0 x1 x2:Str}{st:Stmt}{f:Addr}{d:FuncData}(q:Fq K n st f d)(X:K.In h)(G:h.Ns mainGlobals mg)(e:∀(kV doc pm:Value) (an:AK) (cdv ct u0 u1 u2:Value),bindArgs (PySem.W.fnOf n n (aA5 st) (Z6 st) (A9 st) .none kV doc pm an cdv ct) ⟨[u0,u1,u2],[]⟩=pure [(x0,u0),(x1,u1),(x2,u2)]:=by intros;rfl):Fx K mg n st f d [x0,x1,x2]:=⟨q.F,Au X G q.a,q.F.binds λ_ _ _ _ _ _ r w=>us3 w λu0 u1 u2=>e _ _ _ _ _ _ u0 u1 u2⟩
set_option maxHeartbeats 4000000 in
theorem tx_mk {K:Frag}{h:Heap}{mg:Str->Option Value}{P2 D9 C8 C5 T8 O7 T9 T6 Q9 O0 R3 Q8 Q7 M7 R4 Q6 f0 f1 f2 f3 f4 f5 f6 f7 f8 f9 f10 f11 f12 f13 f14 f15 f16 f17 f18 f19 f20 f21 f22 f23 f24 f25 f26 f27 f28 f29 f30 f31 f32 f33 f34 f35 f36 E6 L5 Q1 Q0 G1 M5 G4 E8 K1 O4 F0 O3 F7:Addr}(X:K.In h)(G:h.Ns mainGlobals mg)
  {d0:FuncData} (q0:Fq K "begun_with" aG1 f0 d0)
  {d1:FuncData} (q1:Fq K "begun_with_least" W7 f1 d1)
  {d2:FuncData} (q2:Fq K "ways_round" aF2 f2 d2)
  {d3:FuncData} (q3:Fq K "ahead_in" aU0 f3 d3)
  {d4:FuncData} (q4:Fq K "round_from" aF8 f4 d4)
  {d5:FuncData} (q5:Fq K "all_rounds" aF0 f5 d5)
  {d6:FuncData} (q6:Fq K "tied" cP1 f6 d6)
  {d7:FuncData} (q7:Fq K "left_of" bE2 f7 d7)
  {d8:FuncData} (q8:Fq K "lands" cB0 f8 d8)
  {d9:FuncData} (q9:Fq K "inner_lands" aB7 f9 d9)
  {d10:FuncData} (q10:Fq K "is_inner_tie" u5 f10 d10)
  {d11:FuncData} (q11:Fq K "put_behind" aH9 f11 d11)
  {d12:FuncData} (q12:Fq K "without" bD5 f12 d12)
  {d13:FuncData} (q13:Fq K "with_turns" aG8 f13 d13)
  {d14:FuncData} (q14:Fq K "deed_of" bD7 f14 d14)
  {d15:FuncData} (q15:Fq K "_law_cell_at" u6 f15 d15)
  {d16:FuncData} (q16:Fq K "_law_mixed" aF9 f16 d16)
  {d17:FuncData} (q17:Fq K "_law_names" aE1 f17 d17)
  {d18:FuncData} (q18:Fq K "_law_grown" aI0 f18 d18)
  {d19:FuncData} (q19:Fq K "_law_begun" aH1 f19 d19)
  {d20:FuncData} (q20:Fq K "_law_built" aF4 f20 d20)
  {d21:FuncData} (q21:Fq K "_law_whole" aE4 f21 d21)
  {d22:FuncData} (q22:Fq K "_law_drawing_alike" T5 f22 d22)
  {d23:FuncData} (q23:Fq K "_law_third" aG7 f23 d23)
  {d24:FuncData} (q24:Fq K "_law_lands" aE5 f24 d24)
  {d25:FuncData} (q25:Fq K "_law_with" aK8 f25 d25)
  {d26:FuncData} (q26:Fq K "_law_put" aS8 f26 d26)
  {d27:FuncData} (q27:Fq K "_law_less" aN5 f27 d27)
  {d28:FuncData} (q28:Fq K "_law_flipped" u7 f28 d28)
  {d29:FuncData} (q29:Fq K "_law_far" aT5 f29 d29)
  {d30:FuncData} (q30:Fq K "_law_drawn" aG3 f30 d30)
  {d31:FuncData} (q31:Fq K "_law_due" aS5 f31 d31)
  {d32:FuncData} (q32:Fq K "_law_kinds" aF1 f32 d32)
  {d33:FuncData} (q33:Fq K "_law_met" aT1 f33 d33)
  {d34:FuncData} (q34:Fq K "_law_made" aJ5 f34 d34)
  {d35:FuncData} (q35:Fq K "_law_right" aE3 f35 d35)
  {d36:FuncData} (q36:Fq K "law" dQ4 f36 d36)
  (aF3:PySem.W.nsIn K mainGlobals "ValueError" = some none)
  (cM7:PySem.W.nsIn K mainGlobals "bool" = some none)
  (aB0:PySem.W.nsIn K mainGlobals "enumerate" = some none)
  (dH0:PySem.W.nsIn K mainGlobals "int" = some none)
  (G9:PySem.W.nsIn K mainGlobals "isinstance" = some none)
  (O9:PySem.W.nsIn K mainGlobals "len" = some none)
  (v9:PySem.W.nsIn K mainGlobals "list" = some none)
  (dQ3:PySem.W.nsIn K mainGlobals "max" = some none)
  (cZ4:PySem.W.nsIn K mainGlobals "min" = some none)
  (O6:PySem.W.nsIn K mainGlobals "range" = some none)
  (aE2:PySem.W.nsIn K mainGlobals "reversed" = some none)
  (aJ7:PySem.W.nsIn K mainGlobals "sorted" = some none)
  (dG1:PySem.W.nsIn K mainGlobals "str" = some none)
  (S5:PySem.W.nsIn K mainGlobals "tuple" = some none)
  {t_MOST_PLACES:Tok} (aB4:PySem.W.nsIn K mainGlobals "MOST_PLACES" = some (some (.int 10 t_MOST_PLACES)))
  {t_CORNERS:Tok} (t9:PySem.W.nsIn K mainGlobals "CORNERS" = some (some (.int 3 t_CORNERS)))
  {c_OUTER_LAND:Addr} (aH6:PySem.W.nsIn K mainGlobals "OUTER_LAND" = some (some (.ref c_OUTER_LAND))) {t0_OUTER_LAND t1_OUTER_LAND t2_OUTER_LAND:Tok} {q_OUTER_LAND:Nat} {sl_OUTER_LAND:Array (Option Value)} (h_OUTER_LAND:K.lookup c_OUTER_LAND=some ⟨.type "tuple",none,.seq #[.int 0 t0_OUTER_LAND,.int 2 t1_OUTER_LAND,.int 1 t2_OUTER_LAND] q_OUTER_LAND,sl_OUTER_LAND⟩)
  (w:Ex K "TreesError" E6)
  (j:Ex K "NoDrawing" L5)
  (ex_NoRows:Ex K "NoRows" Q1)
  (ex_NoText:Ex K "NoText" Q0)
  (ex_Tied:Ex K "Tied" G1)
  (Y:Ex K "NoArrows" M5)
  (P:Ex K "NoLand" G4)
  (J:Ex K "NoPlace" E8)
  (ex_NoTie:Ex K "NoTie" K1)
  (ex_NoRing:Ex K "NoRing" O4)
  (M:Ex K "TooMany" F0)
  (ex_NoLine:Ex K "NoLine" O3)
  (e:Ex K "NothingDone" F7)
  (r9:PySem.W.excIn K E6 bmV "ValueError.__new__" = true)
  (aY8:PySem.W.excIn K G4 bmV "ValueError.__new__" = true)
  (aO5:PySem.W.excIn K E8 bmV "ValueError.__new__" = true)
  (bK9:PySem.W.excIn K K1 bmV "ValueError.__new__" = true)
  (cG9:PySem.W.excIn K O4 bmV "ValueError.__new__" = true)
  (aO9:PySem.W.excIn K F0 bmV "ValueError.__new__" = true)
  (cK8:PySem.W.excIn K O3 bmV "ValueError.__new__" = true)
  (aQ3:PySem.W.excIn K F7 bmV "ValueError.__new__" = true)
  (bO8:XAt K G4)
  (bF0:XAt K E8)
  (bY9:XAt K K1)
  (cO2:XAt K G1)
  (bF1:XAt K F0)
  (E4:Sb K G4 [.ref E6,.ref L5,.ref Q1,.ref Q0,.ref G1,.ref M5,.ref G4,.ref E8,.ref K1,.ref O4,.ref F0,.ref O3,.ref F7,.type "ValueError"] [true,false,false,false,false,false,true,false,false,false,false,false,false,true])
  (D4:Sb K E8 [.ref E6,.ref L5,.ref Q1,.ref Q0,.ref G1,.ref M5,.ref G4,.ref E8,.ref K1,.ref O4,.ref F0,.ref O3,.ref F7,.type "ValueError"] [true,false,false,false,false,false,false,true,false,false,false,false,false,true])
  (F9:Sb K K1 [.ref E6,.ref L5,.ref Q1,.ref Q0,.ref G1,.ref M5,.ref G4,.ref E8,.ref K1,.ref O4,.ref F0,.ref O3,.ref F7,.type "ValueError"] [true,false,false,false,false,false,false,false,true,false,false,false,false,true])
  (K0:Sb K G1 [.ref E6,.ref L5,.ref Q1,.ref Q0,.ref G1,.ref M5,.ref G4,.ref E8,.ref K1,.ref O4,.ref F0,.ref O3,.ref F7,.type "ValueError"] [true,false,false,false,true,false,false,false,false,false,false,false,false,true])
  (D5:Sb K F0 [.ref E6,.ref L5,.ref Q1,.ref Q0,.ref G1,.ref M5,.ref G4,.ref E8,.ref K1,.ref O4,.ref F0,.ref O3,.ref F7,.type "ValueError"] [true,false,false,false,false,false,false,false,false,false,true,false,false,true])
  {no_Tied:Addr} {nm_Tied qn_Tied:Str} {bs_Tied:AG} {hd0_Tied:Bool} {sn_Tied:AH} {sub_Tied:AG} {ab_Tied:Bool} {co_Tied:Option Bool} {dd_Tied:AK} {k0_Tied k1_Tied k2_Tied k3_Tied k5_Tied:Option Value}
  (ho_Tied:K.lookup G1=some (excClassObj nm_Tied qn_Tied G1 no_Tied bs_Tied (.ref E6::bmV) hd0_Tied sn_Tied sub_Tied ab_Tied co_Tied dd_Tied k0_Tied k1_Tied k2_Tied k3_Tied k5_Tied "ValueError.__new__"))
  (hn0_Tied:PySem.W.nsOkIn K no_Tied=true) (ni_Tied:PySem.W.nsIn K no_Tied "__init__" = some (some (.ref P2)))
  {od_Tied_init an_Tied_init:AK} {sl_Tied_init:Array (Option Value)} {oc_Tied_init kV_Tied_init dc_Tied_init pm_Tied_init cd_Tied_init ct_Tied_init:Value}
  (U:K.lookup P2=some ⟨oc_Tied_init,od_Tied_init,.func (PySem.W.fnOf "__init__" "Tied.__init__" (aA5 Y3) (Z6 Y3) (A9 Y3) .none kV_Tied_init dc_Tied_init pm_Tied_init an_Tied_init cd_Tied_init ct_Tied_init),sl_Tied_init⟩) (i_Tied_init:PySem.W.isFn K (.ref P2)=true)
  (c_Tied_init_:PySem.W.codeIn K cd_Tied_init "Tied.__init__" = true) (k_Tied_init_:PySem.W.keepIn K (.ref P2)=true)
  (mo_Tied:PySem.W.mroIn K G1 (.type "object")=some true) (hdx_Tied:PySem.W.hasDictIn K G1=true) (sax_Tied:PySem.W.findIn K (.ref G1) "__setattr__" = some (some (.builtin "object.__setattr__"))) (gax_Tied:PySem.W.findIn K (.ref G1) "__getattribute__" = some (some (.builtin "BaseException.__getattribute__"))) (gtx_Tied:PySem.W.findIn K (.ref G1) "__getattr__" = some none) (up_Tied:PySem.W.mroIn K G1 (.type "BaseException")=some true) (kcx_Tied:PySem.W.keepIn K (.ref G1)=true)
  (Z3:PySem.W.findIn K (.ref G1) "pair" = some none)
  (xsp:PySem.W.specialIn K (.ref E6) "__getattribute__" = some (some (.builtin "type.__getattribute__"))) (xrd:PySem.W.readsIn K E6 (.type "type")=true) (xfc:PySem.W.findCls K (.ref E6) (.type "type") "__init__" = some (.val (.builtin "ValueError.__init__")))
  (n_Put:PySem.W.nsIn K mainGlobals "Put" = some (some (.ref D9)))
  (P4:Cls K D9) (ic_Put:InC K D9)
  (na_Put_a:PySem.W.findIn K (.ref D9) "a" = some none)
  (na_Put_b:PySem.W.findIn K (.ref D9) "b" = some none)
  (na_Put_c:PySem.W.findIn K (.ref D9) "c" = some none)
  {j9:FuncData} (a_Put_init:PySem.W.findIn K (.ref D9) "__init__" = some (some (.ref T8))) (i_Put_init:PySem.W.isFn K (.ref T8)=true) (aF5:Fun K "__init__" "Put.__init__" aS7 T8 j9)
  (bM7:PySem.W.makesIn K D9=true) (kc_Put:PySem.W.keepIn K (.ref D9)=true)
  {U6:FuncData} (a_Put_refuse:PySem.W.findIn K (.ref D9) "refuse" = some (some (.ref O7))) (i_Put_refuse:PySem.W.isFn K (.ref O7)=true) (i5:Fun K "refuse" "Put.refuse" aE9 O7 U6)
  {j8:FuncData} (a_Put_done:PySem.W.findIn K (.ref D9) "done" = some (some (.ref T9))) (i_Put_done:PySem.W.isFn K (.ref T9)=true) (y0:Fun K "done" "Put.done" aR9 T9 j8)
  {j4:FuncData} (a_Put_back:PySem.W.findIn K (.ref D9) "back" = some (some (.ref T6))) (i_Put_back:PySem.W.isFn K (.ref T6)=true) (z0:Fun K "back" "Put.back" aT9 T6 j4)
  (n_Take:PySem.W.nsIn K mainGlobals "Take" = some (some (.ref C8)))
  (W0:Cls K C8) (ic_Take:InC K C8)
  (na_Take_p:PySem.W.findIn K (.ref C8) "p" = some none)
  {Y0:FuncData} (a_Take_init:PySem.W.findIn K (.ref C8) "__init__" = some (some (.ref Q9))) (i_Take_init:PySem.W.isFn K (.ref Q9)=true) (aA9:Fun K "__init__" "Take.__init__" aK1 Q9 Y0)
  (aW5:PySem.W.makesIn K C8=true) (kc_Take:PySem.W.keepIn K (.ref C8)=true)
  {S8:FuncData} (B:PySem.W.findIn K (.ref C8) "refuse" = some (some (.ref O0))) (i_Take_refuse:PySem.W.isFn K (.ref O0)=true) (V5:Fun K "refuse" "Take.refuse" aB6 O0 S8)
  {Y4:FuncData} (a_Take_done:PySem.W.findIn K (.ref C8) "done" = some (some (.ref R3))) (i_Take_done:PySem.W.isFn K (.ref R3)=true) (n9:Fun K "done" "Take.done" aJ4 R3 Y4)
  {X7:FuncData} (a_Take_back:PySem.W.findIn K (.ref C8) "back" = some (some (.ref Q8))) (i_Take_back:PySem.W.isFn K (.ref Q8)=true) (m9:Fun K "back" "Take.back" aJ6 Q8 X7)
  (n_Flip:PySem.W.nsIn K mainGlobals "Flip" = some (some (.ref C5)))
  (T0:Cls K C5) (ic_Flip:InC K C5)
  (na_Flip_p:PySem.W.findIn K (.ref C5) "p" = some none)
  (na_Flip_q:PySem.W.findIn K (.ref C5) "q" = some none)
  {X3:FuncData} (a_Flip_init:PySem.W.findIn K (.ref C5) "__init__" = some (some (.ref Q7))) (i_Flip_init:PySem.W.isFn K (.ref Q7)=true) (aA2:Fun K "__init__" "Flip.__init__" aI9 Q7 X3)
  (bA7:PySem.W.makesIn K C5=true) (kc_Flip:PySem.W.keepIn K (.ref C5)=true)
  {Q4:FuncData} (N:PySem.W.findIn K (.ref C5) "new_tie" = some (some (.ref M7))) (Q:PySem.W.isFn K (.ref M7)=true) (T4:Fun K "new_tie" "Flip.new_tie" y6 M7 Q4)
  {X6:FuncData} (a_Flip_done:PySem.W.findIn K (.ref C5) "done" = some (some (.ref R4))) (i_Flip_done:PySem.W.isFn K (.ref R4)=true) (l9:Fun K "done" "Flip.done" aN6 R4 X6)
  {Y2:FuncData} (a_Flip_back:PySem.W.findIn K (.ref C5) "back" = some (some (.ref Q6))) (i_Flip_back:PySem.W.isFn K (.ref Q6)=true) (n8:Fun K "back" "Flip.back" aM1 Q6 Y2)
  {cdo_Put:ClassData} (yo_Put:PySem.W.clsIn K D9=some cdo_Put) (to_Put:PySem.W.typeIn K (.ref D9)=some (.type "type"))
  {cdo_Take:ClassData} (yo_Take:PySem.W.clsIn K C8=some cdo_Take) (to_Take:PySem.W.typeIn K (.ref C8)=some (.type "type"))
  {cdo_Flip:ClassData} (yo_Flip:PySem.W.clsIn K C5=some cdo_Flip) (to_Flip:PySem.W.typeIn K (.ref C5)=some (.type "type"))
  : ∃a:Ad,Tx K mg a/\a.cY2=f36/\∀(s:Shared) (v:Value),BindsTo s a.cH2 ⟨[v],[]⟩ [("_law_script",v)]:=by
 have r:=E3 (st:=Y3) U c_Tied_init_ k_Tied_init_
 refine⟨⟨f0,d0,f1,d1,f2,d2,f3,d3,f4,d4,f5,d5,f6,d6,f7,d7,f8,d8,f9,d9,f10,d10,f11,d11,f12,d12,f13,d13,f14,d14,f15,d15,f16,d16,f17,d17,f18,d18,f19,d19,f20,d20,f21,d21,f22,d22,f23,d23,f24,d24,f25,d25,f26,d26,f27,d27,f28,d28,f29,d29,f30,d30,f31,d31,f32,d32,f33,d33,f34,d34,f35,d35,f36,d36,E6,L5,Q1,Q0,G1,M5,G4,E8,K1,O4,F0,O3,F7,P2,_,D9,T8,j9,O7,U6,T9,j8,T6,j4,C8,Q9,Y0,O0,S8,R3,Y4,Q8,X7,C5,Q7,X3,M7,Q4,R4,X6,Q6,Y2⟩,⟨q0.fx2 X G,q1.fx1 X G,q2.fx1 X G,q3.fx2 X G,q4.fx3 X G,q5.fx1 X G,q6.fx3 X G,q7.fx3 X G,q8.fx1 X G,q9.fx1 X G,q10.fx3 X G,q11.fx3 X G,q12.fx2 X G,q13.fx2 X G,q14.fx1 X G,q15.fx2 X G,q16.fx2 X G,q17.fx2 X G,q18.fx2 X G,q19.fx1 X G,q20.fx3 X G,q21.fx1 X G,q22.fx2 X G,q23.fx3 X G,q24.fx1 X G,q25.fx3 X G,q26.fx2 X G,q27.fx2 X G,q28.fx3 X G,q29.fx1 X G,q30.fx2 X G,q31.fx2 X G,q32.fx1 X G,q33.fx3 X G,q34.fx1 X G,q35.fx2 X G,q36.fx1 X G,Ay X G aF3,Ay X G cM7,Ay X G aB0,Ay X G dH0,Ay X G G9,Ay X G O9,Ay X G v9,Ay X G dQ3,Ay X G cZ4,Ay X G O6,Ay X G aE2,Ay X G aJ7,Ay X G dG1,Ay X G S5,⟨t_MOST_PLACES,Au X G aB4⟩,⟨t_CORNERS,Au X G t9⟩,⟨c_OUTER_LAND,Au X G aH6,λH=>.inr ⟨_,_,_,h_OUTER_LAND,rfl,rfl,rfl,(show 3<=sizeLine by decide),.cons ⟨_,rfl⟩ (.cons ⟨_,rfl⟩ (.cons ⟨_,rfl⟩ (.nil)))⟩⟩,Au X G w.n,w.q,Au X G j.n,j.q,Au X G ex_NoRows.n,ex_NoRows.q,Au X G ex_NoText.n,ex_NoText.q,Au X G ex_Tied.n,ex_Tied.q,Au X G Y.n,Y.q,Au X G P.n,P.q,Au X G J.n,J.q,Au X G ex_NoTie.n,ex_NoTie.q,Au X G ex_NoRing.n,ex_NoRing.q,Au X G M.n,M.q,Au X G ex_NoLine.n,ex_NoLine.q,Au X G e.n,e.q,r9,aY8,aO5,bK9,cG9,aO9,cK8,aQ3,bO8,bF0,bY9,cO2,bF1,E4,D4,F9,K0,D5,dY8 ho_Tied r9 hn0_Tied ni_Tied U i_Tied_init mo_Tied hdx_Tied sax_Tied gax_Tied gtx_Tied up_Tied kcx_Tied,Z3,r,r.binds λ_ _ _ _ _ _ us R=>us2 R λ_ _=>rfl,⟨xsp,xrd,xfc,rfl⟩,Au X G n_Put,P4,ic_Put,na_Put_a,na_Put_b,na_Put_c,aF5,aF5.binds λ_ _ _ _ _ _ us R=>us4 R λ_ _ _ _=>rfl,⟨bM7,a_Put_init,i_Put_init,kc_Put⟩,i5,i5.binds λ_ _ _ _ _ _ us R=>us2 R λ_ _=>rfl,⟨a_Put_refuse,i_Put_refuse,i5.kp⟩,y0,y0.binds λ_ _ _ _ _ _ us R=>us2 R λ_ _=>rfl,⟨a_Put_done,i_Put_done,y0.kp⟩,z0,z0.binds λ_ _ _ _ _ _ us R=>us2 R λ_ _=>rfl,⟨a_Put_back,i_Put_back,z0.kp⟩,Au X G n_Take,W0,ic_Take,na_Take_p,aA9,aA9.binds λ_ _ _ _ _ _ us R=>us2 R λ_ _=>rfl,⟨aW5,a_Take_init,i_Take_init,kc_Take⟩,V5,V5.binds λ_ _ _ _ _ _ us R=>us2 R λ_ _=>rfl,⟨B,i_Take_refuse,V5.kp⟩,n9,n9.binds λ_ _ _ _ _ _ us R=>us2 R λ_ _=>rfl,⟨a_Take_done,i_Take_done,n9.kp⟩,m9,m9.binds λ_ _ _ _ _ _ us R=>us2 R λ_ _=>rfl,⟨a_Take_back,i_Take_back,m9.kp⟩,Au X G n_Flip,T0,ic_Flip,na_Flip_p,na_Flip_q,aA2,aA2.binds λ_ _ _ _ _ _ us R=>us3 R λ_ _ _=>rfl,⟨bA7,a_Flip_init,i_Flip_init,kc_Flip⟩,T4,T4.binds λ_ _ _ _ _ _ us R=>us2 R λ_ _=>rfl,⟨N,Q,T4.kp⟩,l9,l9.binds λ_ _ _ _ _ _ us R=>us2 R λ_ _=>rfl,⟨a_Flip_done,i_Flip_done,l9.kp⟩,n8,n8.binds λ_ _ _ _ _ _ us R=>us2 R λ_ _=>rfl,⟨a_Flip_back,i_Flip_back,n8.kp⟩⟩,rfl,λs v=>?_⟩
 obtain⟨_,_,_,_,_,_,_,_,_,rfl,_⟩:=q36.F.ex;exact .of_eq rfl
theorem F6:B8 ["_law_first", "_law_second", "_law_outs", "_law_ins", "_law_path", "_law_heap", "_law_i", "_law_ahead", "_law_k", "_law_place", "_law_turns", "_law_v", "_law_came", "_law_row"] ["_law_first", "_law_second"] (A9 aI0):={}
def rh (m:Nat)(F G:Nat->Nat)(o i:OT)(p h:AC)(x6 x7 x8 x9:Sl):List Sl:=
 [.val (lI (fl F m)),.val (lI (fl G m)),.tr o,.tr i,.own (nI p.reverse),.own (nI h.reverse),x6,x7,x8,x9,.no,.no,.no,.no]
theorem aA0 {m:Nat}{F G:Nat->Nat}{o i:OT}{p h:AC}{x6 x7 x8 x9:Sl}(e:x6.nb=true)(w:x7.nb=true)(r:x8.nb=true)(j:x9.nb=true):i7 (rh m F G o i p h x6 x7 x8 x9)=true:=by
 unfold rh;simp only[aH2,e,w,r,j,Bool.true_and];rfl
def rh2 (m:Nat)(F G:Nat->Nat)(o i:PyData)(p h:AF)(x6 x7 x8 x9 x10 x11 x12 x13:Sl):List Sl:=
 [.val (lI (fl F m)),.val (lI (fl G m)),.val o,.val i,.own p,.own h,x6,x7,x8,x9,x10,x11,x12,x13]
theorem cO7 {m:Nat}{F G:Nat->Nat}{o i:PyData}{p h:AF}{x6 x7 x8 x9 x10 x11 x12 x13:Sl}(s:x6.nb=true)(Y:x7.nb=true)(X:x8.nb=true)(U:x9.nb=true)(e:x10.nb=true)(w:x11.nb=true)(r:x12.nb=true)(j:x13.nb=true):i7 (rh2 m F G o i p h x6 x7 x8 x9 x10 x11 x12 x13)=true:=by
 unfold rh2;simp only[aH2,s,Y,X,U,e,w,r,j,Bool.true_and];rfl
def dM4 (ds:AF)(d:PyData):Prop:=∃F G m,TT.Rws F G m/\m<=1000/\ds=[lI (fl F m),lI (fl G m)] /\
 d=.tuple [.list ((List.range (m+3)).map λv=>lN ((TT.gst F G m).row v)),.list ((List.range m).map λv=>lN [(TT.gst F G m).o0 (v+3),(TT.gst F G m).o1 (v+3),(TT.gst F G m).o2 (v+3)])]
section
variable {P:Program}{w:World}{K:Frag}{mg:Str->Option Value}{base:Heap}{a:Ad}
theorem dH6 (T:Tx K mg a):FnOk P w K mg base CX0 1 a.bB1 a.bC9 ["_law_first", "_law_second"] (spV K dM4):=by
 refine T.aX7.F.ok F6 (Y7 λds d ⟨_,_,_,_,_,e,_⟩=>by rw[e];rfl) (λcdv A outer s H vs Q E hr h=>?_)
 obtain⟨ds,S,d,hS,r,⟨F,G,m,R,hm,rfl,rfl⟩,k⟩:=h;refine⟨_,(A3 (psS 2 F6 (D6 A2))
   (A3 (psS 3 F6 (D6 (A0 (H9 (A0 (D6 A2) (A0 (D6 A2) (A0 (D6 A2) A2)))) (A0 (H9 (A0 (D6 A2) (A0 (D6 A2) (A0 (D6 A2) A2)))) (A0 (H9 (A0 (D6 A2) (A0 (D6 A2) (A0 (D6 A2) A2)))) A2)))))
   (A3 (psS 4 F6 (D6 (A0 A4 A2)))
   (A3 (psS 5 F6 (D6 (A0 A4 A2)))
   (A3 (S4 Ao rfl (N1 rfl T.O6 (A0 (C0 P0 (by rfl) T.O9 Am (A0 (pv 0) A2)) A2)) (pgN 6 F6) (A3 (psS 7 F6 (D6 (A0 A4 (A0 A4 A2))))
   (A3 (L6 (B9 cG7 (pv 6) A4 (D8 _)) (A7 (psS 7 F6 (D6 (A0 (B4 F4 (pv 0) (B1 S2 (pv 6) A4) (λ_ _=>rfl)) (A0 (B4 F4 (pv 1) (B1 S2 (pv 6) A4) (λ_ _=>rfl)) A2))))) E1)
   (A3 (S4 Ao rfl (N1 rfl T.O6 (A0 (B1 S2 (B4 F4 (pv 0) (pv 6) (λ_ _=>rfl)) (B4 F4 (pv 7) A4 (λ_ _=>rfl))) A2)) (pgN 8 F6) (A7 (L8 (S7 Ab1 Ag Af K7 (pv 5) (A0 (cA6 Ab1 PySem.F.slot_list_pop PySem.F.type_list_pop cC7 (pv 4)) A2)))))
   (A3 (L8 (S7 Ab1 Ag Af K7 (pv 3) (A0 (H9 (A0 (D6 A2) (A0 (D6 A2) (A0 (D6 A2) A2)))) A2)))
   (A3 (S4 Ao rfl (N1 rfl T.O6 (A0 (B1 S2 (B4 F4 (pv 1) (pv 6) (λ_ _=>rfl)) (B4 F4 (pv 7) A4 (λ_ _=>rfl))) A2)) (pgN 8 F6) (A3 (psS 9 F6 (cA6 Ab1 PySem.F.slot_list_pop PySem.F.type_list_pop cC7 (pv 5)))
   (A3 (aB2 (B1 N6 A4 (pv 6)) (aK5 (B4 F4 (pv 2) (B1 S2 (pv 9) A4) (λ_ _=>rfl)) A4 m5))
   (A7 (L8 (S7 Ab1 Ag Af K7 (B4 F4 (B4 F4 (pv 3) (B1 N6 A4 (pv 6)) (λ_ _=>rfl)) A4 (λ_ _=>rfl)) (A0 (pv 9) A2)))))))
   (A3 (L8 (S7 Ab1 Ag Af K7 (pv 2) (A0 (D6 (A0 (B4 F4 (pv 4) (bI6 aI8 A4) (λ_ _=>rfl)) (A0 (B4 F4 (pv 5) (bI6 aI8 A4) (λ_ _=>rfl)) (A0 A4 A2)))) A2)))
   (A3 (L8 (S7 Ab1 Ag Af K7 (B4 F4 (B4 F4 (pv 3) (B4 F4 (pv 4) (bI6 aI8 A4) (λ_ _=>rfl)) (λ_ _=>rfl)) A4 (λ_ _=>rfl)) (A0 (B1 N6 A4 (pv 6)) A2)))
   (A3 (L8 (S7 Ab1 Ag Af K7 (B4 F4 (B4 F4 (pv 3) (B4 F4 (pv 5) (bI6 aI8 A4) (λ_ _=>rfl)) (λ_ _=>rfl)) A4 (λ_ _=>rfl)) (A0 (B1 N6 A4 (pv 6)) A2)))
   (A7 (L8 (S7 Ab1 Ag Af K7 (pv 4) (A0 (B1 N6 A4 (pv 6)) A2)))))))))))))
   (A3 (bL8 Ao (B9 cG7 (C0 P0 (by rfl) T.O9 Am (A0 (pv 4) A2)) A4 (D8 _)) (A7 (L8 (S7 Ab1 Ag Af K7 (pv 5) (A0 (cA6 Ab1 PySem.F.slot_list_pop PySem.F.type_list_pop cC7 (pv 4)) A2)))))
   (A3 (bL8 Ao (B9 cG7 (C0 P0 (by rfl) T.O9 Am (A0 (pv 5) A2)) A4 (D8 _)) (A7 (L8 (S7 Ab1 Ag Af K7 (B4 F4 (B4 F4 (pv 3) A4 (λ_ _=>rfl)) A4 (λ_ _=>rfl)) (A0 (cA6 Ab1 PySem.F.slot_list_pop PySem.F.type_list_pop cC7 (pv 5)) A2)))))
   (A3 (psS 10 F6 (D6 (A0 (B1 (O5 K) (B1 (O5 K) (D6 (A0 A4 A2)) (B4 F4 (B4 F4 (pv 3) A4 (λ_ _=>rfl)) A4 (λ_ _=>rfl))) (D6 (A0 A4 A2))) A2)))
   (A3 (L8 (S7 Ab1 Ag Af K7 (pv 10) (A0 (B1 (O5 K) (B1 (O5 K) (D6 (A0 A4 A2)) (bP0 K rfl (by rfl) T.v9 (by rfl) T.aE2 (B4 F4 (B4 F4 (pv 3) A4 (λ_ _=>rfl)) A4 (λ_ _=>rfl)))) (D6 (A0 A4 A2))) A2)))
   (A3 (L8 (S7 Ab1 Ag Af K7 (pv 10) (A0 (B1 (O5 K) (B1 (O5 K) (D6 (A0 A4 A2)) (B4 F4 (B4 F4 (pv 3) A4 (λ_ _=>rfl)) A4 (λ_ _=>rfl))) (D6 (A0 A4 A2))) A2)))
   (A3 (S4 Ao rfl (N1 rfl T.O6 (A0 (C0 P0 (by rfl) T.O9 Am (A0 (pv 2) A2)) A2)) (pgN 11 F6) (A3 (psS 12 F6 (B4 F4 (pv 3) (B1 N6 A4 (pv 11)) (λ_ _=>rfl)))
   (A3 (psS 13 F6 (B1 (O5 K) (B1 (O5 K) (B1 (O5 K) (D6 (A0 (B4 F4 (B4 F4 (pv 2) (pv 11) (λ_ _=>rfl)) A4 (λ_ _=>rfl)) A2)) (B4 F4 (pv 12) A4 (λ_ _=>rfl))) (D6 (A0 (B4 F4 (B4 F4 (pv 2) (pv 11) (λ_ _=>rfl)) A4 (λ_ _=>rfl)) A2))) (B4 F4 (pv 12) A4 (λ_ _=>rfl))))
   (A7 (L8 (S7 Ab1 Ag Af K7 (pv 10) (A0 (B1 (O5 K) (B1 (O5 K) (pv 13) (D6 (A0 (B4 F4 (B4 F4 (pv 2) (pv 11) (λ_ _=>rfl)) A4 (λ_ _=>rfl)) A2))) (bP0 K rfl (by rfl) T.v9 (by rfl) T.aE2 (B4 F4 (pv 12) A4 (λ_ _=>rfl)))) A2)))))))
   (A7 (B7 (H9 (A0 (pv 10) (A0 (pv 2) A2)))))))))))))))),M0 hS r ?_ k⟩
 refine A8 (cR7 (R7 N7) ?_);refine A8 (cR7 (R7 (M3 (bJ6 (M3 (R7 N7) (M3 (R7 N7) (M3 (R7 N7) N7)))) (M3 (bJ6 (M3 (R7 N7) (M3 (R7 N7) (M3 (R7 N7) N7)))) (M3 (bJ6 (M3 (R7 N7) (M3 (R7 N7) (M3 (R7 N7) N7)))) N7)))) ?_);refine A8 (N2 (G3 (A1 A6 A5)) ?_);refine A8 (N2 (G3 (A1 A6 A5)) ?_);show W K _ (rh m F G (Q3 0 (TT.gst F G 0).o0 (TT.gst F G 0).o1 (TT.gst F G 0).o2) (M1 (0+3) (TT.gst F G 0).i0 (TT.gst F G 0).i1 (TT.gst F G 0).i2) (TT.gst F G 0).path (TT.gst F G 0).heap .no .no .no .no) _;have bD9:((fl F m).map PyData.int).length=m:=by simp[fl]
 refine A8 (Y5 (a8 (A1 (M9 (A1 (B0 rfl) A5)) A5) ?_ ?_) (λi ρ=>∃U J x8 Y,(U.nb=true/\J.nb=true/\x8.nb=true/\Y.nb=true) /\
  ρ=rh m F G (Q3 i (TT.gst F G i).o0 (TT.gst F G i).o1 (TT.gst F G i).o2) (M1 (i+3) (TT.gst F G i).i0 (TT.gst F G i).i1 (TT.gst F G i).i2) (TT.gst F G i).path (TT.gst F G i).heap U J x8 Y) ⟨_,_,_,_,⟨rfl,rfl,rfl,rfl⟩,rfl⟩ ?_ ?_)
 .rw[bD9];lia
 .rw[bD9];lia
 .rintro i d _ N ⟨U,J,x8,Y,⟨b6,b7,b8,M⟩,rfl⟩;obtain⟨rfl,hi⟩:=Z8 N;have hi:i<m:=by
   have:=hi
   simp[fl]at this
   lia
  obtain⟨sk,sa,sb,spl,shl,slo,spx,shy,se0,se1⟩:=TT.eH0 R hi;have hst:TT.gst F G (i+1)=(TT.gst F G i).step (F i-TT.pv F i) (G i-TT.pv G i):=rfl;have f1:=R.f1 i hi;have g1:=R.g1 i hi;have hFi:=R.f2 i hi;have hGi:=R.g2 i hi;generalize hs:TT.gst F G i=s at sk sa sb spl shl slo spx shy se0 se1 hst ⊢;refine⟨_,F8,?_⟩;refine A8 (N2 (G3 (A1 A6 (A1 A6 A5))) ?_ (show 7<14 by decide))
  refine A8 (eB5 (rh m F G (Q3 i s.o0 s.o1 s.o2) (M1 (i+3) s.i0 s.i1 s.i2) s.path s.heap (.val (.int (i:Int))) (.own [.int (TT.pv F i:Nat),.int (TT.pv G i:Nat)]) x8 Y) (C1 (z4 (B0 rfl) A6))
   (λh=>(N2 (ds:=[.int (F (i-1):Nat),.int (G (i-1):Nat)]) (G3 (A1 (C9 (B0 rfl) (N4 (B0 rfl) A6) rfl ?_) (A1 (C9 (B0 rfl) (N4 (B0 rfl) A6) rfl ?_) A5))) ?_ (show 7<14 by decide))) (λh=>E2 ?_) ?_)
  .have h:(i:Int)>0:=Aj h
   have e:(i:Int)-1=((i-1:Nat):Int):=by lia
   rw[e];exact cV8 (by lia)
  .have h:(i:Int)>0:=Aj h
   have e:(i:Int)-1=((i-1:Nat):Int):=by lia
   rw[e];exact cV8 (by lia)
  .have h:(i:Int)>0:=Aj h
   obtain⟨j,rfl⟩:∃j,i=j+1:=⟨i-1,by lia⟩
   rfl
  .have h:¬(i:Int)>0:=Ar h
   have:i=0:=by lia
   subst this;rfl
  generalize hA:F i-TT.pv F i=na at sa sb shl slo spx shy hst;generalize hB:G i-TT.pv G i=nb at sb slo shy hst;refine A8 (Y5 (a8 (A1 (N4 (C9 (B0 rfl) (B0 rfl) rfl (cV8 hi)) (C9 (P6 rfl) A6 rfl rfl)) A5) ?_ ?_) (λj ρ=>∃x8,x8.nb=true /\
   ρ=rh m F G (Q3 i s.o0 s.o1 s.o2) (M1 (i+3) s.i0 s.i1 s.i2) (s.path.drop j) (s.h1 j) (.val (.int (i:Int))) (.own [.int (TT.pv F i:Nat),.int (TT.pv G i:Nat)]) x8 Y) ⟨x8,b8,rfl⟩ ?_ ?_)
  .lia
  .lia
  .rintro j d _ N ⟨y8,c8,rfl⟩;obtain⟨rfl,B⟩:=Z8 N;have B:j<na:=by lia
   refine⟨_,F8,?_⟩;obtain⟨x,hx⟩:∃x,s.path[j]? = some x:=⟨_,Aa2 (by lia)⟩
   have e1:s.path.drop j=x::s.path.drop (j+1):=by
    obtain⟨h1,h2⟩:=Ab0.mp hx;rw[<- h2];exact Cb h1
   have e2:s.h1 (j+1)=x::s.h1 j:=by
    unfold TT.S.h1;obtain⟨h1,h2⟩:=Ab0.mp hx;rw[Br h1,h2];simp
   show W K _ (rh m F G (Q3 i s.o0 s.o1 s.o2) (M1 (i+3) s.i0 s.i1 s.i2) (s.path.drop j) (s.h1 j) (.val (.int (i:Int))) (.own [.int (TT.pv F i:Nat),.int (TT.pv G i:Nat)]) (.val (.int (j:Int))) Y) _
   refine bE1 (ds:=nI (s.h1 j).reverse) (cR2 (d:=.int (x:Int)) (ds:=nI (s.path.drop (j+1)).reverse) ?_ (aA0 rfl rfl rfl M)) rfl rfl ?_ ⟨.val (.int (j:Int)),rfl,?_⟩ ?_
   .show some (Sl.own (nI (s.path.drop j).reverse))=_
    rw[e1];simp[nI]
   .rw[G5,Ae1];unfold TT.S.h1 at shl ⊢;unfold sizeLine;simp only[Ab7,Ae1,Ad1]at shl ⊢
    lia
   .rw[e2];unfold rh
    simp[nI]
   .exact aA0 (p:=s.path.drop (j+1)) (h:=s.h1 j) rfl rfl rfl M
  rintro _ ⟨y8,c8,rfl⟩;rw[W2];have ea:((F i:Int)-(TT.pv F i:Int)).toNat=na:=by lia
  rw[ea];refine A8 (aD2 (u0:=M1 (i+3) s.i0 s.i1 s.i2) aT8 rfl rfl (bJ6 (M3 (R7 N7) (M3 (R7 N7) (M3 (R7 N7) N7)))) ?_ ?_ (aA0 rfl rfl c8 M))
  .rw[Aa3,Cz];unfold sizeLine;lia
  have ei:(M1 (i+3) s.i0 s.i1 s.i2).put [] (.lst (((List.range (i+3)).map λq=>OT.tup [oN (s.i0 q),oN (s.i1 q),oN (s.i2 q)])++[.tup [.lst [],.lst [],.lst []]]))=M1 (i+4) s.i0 s.i1 (TT.put s.i2 (i+3) []):=by
   rw[OT.put_nil,dY9]
   congr 1
   .funext q;by_cases e:q=i+3
    .rw[e,TT.G6,se0]
    .rw[TT.F5 e]
   .funext q;by_cases e:q=i+3
    .rw[e,TT.G6,se1]
    .rw[TT.F5 e]
  show W K _ ((rh m F G (Q3 i s.o0 s.o1 s.o2) (M1 (i+3) s.i0 s.i1 s.i2) (s.path.drop na) (s.h1 na) (.val (.int (i:Int))) (.own [.int (TT.pv F i:Nat),.int (TT.pv G i:Nat)]) y8 Y).set 3 (.tr ((M1 (i+3) s.i0 s.i1 s.i2).put [] (.lst (((List.range (i+3)).map λq=>OT.tup [oN (s.i0 q),oN (s.i1 q),oN (s.i2 q)])++[.tup [.lst [],.lst [],.lst []]]))))) _
  rw[ei];show W K _ (rh m F G (Q3 i s.o0 s.o1 s.o2) (M1 (i+4) s.i0 s.i1 (TT.put s.i2 (i+3) [])) (s.path.drop na) (s.h1 na) (.val (.int (i:Int))) (.own [.int (TT.pv F i:Nat),.int (TT.pv G i:Nat)]) y8 Y) _;generalize hh:s.h1 na=h at sb shl slo shy ⊢;refine A8 (Y5 (a8 (A1 (N4 (C9 (B0 rfl) (B0 rfl) rfl (cV8 hi)) (C9 (P6 rfl) A6 rfl rfl)) A5) ?_ ?_) (λj ρ=>∃x8 Y,x8.nb=true/\Y.nb=true /\
   ρ=rh m F G (Q3 i s.o0 s.o1 (λq=>if q∈h.take j then i+3 else s.o2 q)) (M1 (i+4) s.i0 s.i1 (TT.put s.i2 (i+3) (h.take j))) (s.path.drop na) (h.drop j) (.val (.int (i:Int))) (.own [.int (TT.pv F i:Nat),.int (TT.pv G i:Nat)]) x8 Y) ⟨y8,Y,c8,M,by simp⟩ ?_ ?_)
  .lia
  .lia
  .rintro j d _ N ⟨z8,z9,c8,c9,rfl⟩;obtain⟨rfl,B⟩:=Z8 N;have B:j<nb:=by lia
   refine⟨_,F8,?_⟩;obtain⟨x,hx⟩:∃x,h[j]? = some x:=⟨_,Aa2 (by lia)⟩
   obtain⟨hx1,hx2⟩:=Ab0.mp hx;have e1:h.drop j=x::h.drop (j+1):=by rw[<- hx2];exact Cb hx1
   have e2:h.take (j+1)=h.take j++[x]:=by rw[<- hx2];exact Br hx1
   obtain⟨x3,xi⟩:=slo x (by
    refine Bb (i:=j) ?_;rw[Dq,Ac B];exact hx)
   refine A8 (eQ4 (ds:=nI (h.drop (j+1)).reverse) (d:=.int (x:Int)) ?_ ?_ (aA0 (x8:=.val (.int (j:Int))) rfl rfl rfl c9))
   .show some (Sl.own (nI (h.drop j).reverse))=_
    rw[e1];simp[nI]
   have e3:(3:Int)+(i:Int)=((i+3:Nat):Int):=by lia
   have hx3:x-3+3=x:=by lia
   show W K _ (rh m F G (Q3 i s.o0 s.o1 (λq=>if q∈h.take j then i+3 else s.o2 q)) (M1 (i+4) s.i0 s.i1 (TT.put s.i2 (i+3) (h.take j))) (s.path.drop na) (h.drop (j+1)) (.val (.int (i:Int))) (.own [.int (TT.pv F i:Nat),.int (TT.pv G i:Nat)]) (.val (.int (j:Int))) (.val (.int (x:Int)))) _
   have eo:(Q3 i s.o0 s.o1 (λq=>if q∈h.take j then i+3 else s.o2 q)).put [x-3] (oN [s.o0 (x-3+3),s.o1 (x-3+3),i+3])=Q3 i s.o0 s.o1 (λq=>if q∈h.take (j+1) then i+3 else s.o2 q):=by
    rw[eA8 (by lia)]
    congr 1
    funext q
    rw[hx3,e2];by_cases e:q=x
    .rw[e,TT.G6];simp
    .rw[TT.F5 e];simp[e]
   refine A8 (eJ4 (u0:=Q3 i s.o0 s.o1 (λq=>if q∈h.take j then i+3 else s.o2 q)) (us:=[.leaf (.int (s.o0 (x-3+3):Nat)),.leaf (.int (s.o1 (x-3+3):Nat)),.leaf (.int ((if x-3+3∈h.take j then i+3 else s.o2 (x-3+3):Nat):Int))]) (π:=[]++[x-3]) 2 (N4 A6 (B0 rfl)) (bA3 (x-3) aT8 (N4 (B0 rfl) A6) (by lia) (λu _=>⟨u,rfl⟩)) A6 rfl (by decide:2<3) rfl (eM1 (by lia)) ?_ (aA0 rfl rfl rfl rfl))
   show W K _ ((rh m F G (Q3 i s.o0 s.o1 (λq=>if q∈h.take j then i+3 else s.o2 q)) (M1 (i+4) s.i0 s.i1 (TT.put s.i2 (i+3) (h.take j))) (s.path.drop na) (h.drop (j+1)) (.val (.int (i:Int))) (.own [.int (TT.pv F i:Nat),.int (TT.pv G i:Nat)]) (.val (.int (j:Int))) (.val (.int (x:Int)))).set 2
    (.tr ((Q3 i s.o0 s.o1 (λq=>if q∈h.take j then i+3 else s.o2 q)).put [x-3] (.lst [.leaf (.int (s.o0 (x-3+3):Nat)),.leaf (.int (s.o1 (x-3+3):Nat)),.leaf (.int (3+(i:Int)))])))) _
   rw[e3];show W K _ ((rh m F G (Q3 i s.o0 s.o1 (λq=>if q∈h.take j then i+3 else s.o2 q)) (M1 (i+4) s.i0 s.i1 (TT.put s.i2 (i+3) (h.take j))) (s.path.drop na) (h.drop (j+1)) (.val (.int (i:Int))) (.own [.int (TT.pv F i:Nat),.int (TT.pv G i:Nat)]) (.val (.int (j:Int))) (.val (.int (x:Int)))).set 2
    (.tr ((Q3 i s.o0 s.o1 (λq=>if q∈h.take j then i+3 else s.o2 q)).put [x-3] (oN [s.o0 (x-3+3),s.o1 (x-3+3),i+3])))) _
   rw[eo];show W K _ (rh m F G (Q3 i s.o0 s.o1 (λq=>if q∈h.take (j+1) then i+3 else s.o2 q)) (M1 (i+4) s.i0 s.i1 (TT.put s.i2 (i+3) (h.take j))) (s.path.drop na) (h.drop (j+1)) (.val (.int (i:Int))) (.own [.int (TT.pv F i:Nat),.int (TT.pv G i:Nat)]) (.val (.int (j:Int))) (.val (.int (x:Int)))) _
   refine aD2 (u0:=M1 (i+4) s.i0 s.i1 (TT.put s.i2 (i+3) (h.take j))) (π:=[]++[i+3]++[2]) (bA3 2 (bA3 (i+3) aT8 (N4 A6 (B0 rfl)) (by lia) (λu _=>⟨u,rfl⟩)) A6 rfl (λu0 h=>by cases h;exact⟨_,aU1 (by lia)⟩)) rfl (cY8 (by lia)) (bU8 (B0 rfl)) ?_ ?_ (aA0 rfl rfl rfl rfl)
   .rw[Aa3,TT.G6,Ad1];unfold sizeLine;lia
   refine⟨.val (.int (j:Int)),vI (x:Int),rfl,rfl,?_⟩;rw[cJ6 (by lia),cT3,TT.G6,<- e2]
   rfl
  rintro _ ⟨z8,z9,c8,c9,rfl⟩;rw[W2];have eb:((G i:Int)-(TT.pv G i:Int)).toNat=nb:=by lia
  rw[eb];obtain⟨x,r1,ex,xlt,xlen⟩:=spx;obtain⟨y,r2,ey,ylt,ylen⟩:=shy;have e3:(3:Int)+(i:Int)=((i+3:Nat):Int):=by lia
  have hpl:atI (nI (s.path.drop na).reverse) (-1)=some (.int (x:Int)):=by rw[ex,List.reverse_cons,o9];exact aZ3
  have hhl:atI (nI (h.drop nb).reverse) (-1)=some (.int (y:Int)):=by rw[ey,List.reverse_cons,o9];exact aZ3
  refine A8 (aD2 (u0:=Q3 i s.o0 s.o1 (λq=>if q∈h.take nb then i+3 else s.o2 q)) aT8 rfl rfl (R7 (M3 (bU8 (LV.E.imm (d:=.int (x:Int)) (C9 (P6 rfl) (bH4 A6) rfl hpl))) (M3 (bU8 (LV.E.imm (d:=.int (y:Int)) (C9 (P6 rfl) (bH4 A6) rfl hhl))) (M3 (bU8 A6) N7)))) ?_ ?_ (aA0 rfl rfl c8 c9))
  .rw[Aa3,Cz];unfold sizeLine;lia
  have eo:(Q3 i s.o0 s.o1 (λq=>if q∈h.take nb then i+3 else s.o2 q)).put [] (.lst (((List.range i).map λj=>oN [s.o0 (j+3),s.o1 (j+3),(λq=>if q∈h.take nb then i+3 else s.o2 q) (j+3)])++[.lst [.leaf (.int (x:Int)),.leaf (.int (y:Int)),.leaf (.int ((2:Nat):Int))]]))=Q3 (i+1) (TT.put s.o0 (i+3) x) (TT.put s.o1 (i+3) y) (TT.put (λq=>if q∈h.take nb then i+3 else s.o2 q) (i+3) 2):=by rw[OT.put_nil];exact eB0 (k:=i) (o0:=s.o0) (o1:=s.o1) (o2:=λq=>if q∈h.take nb then i+3 else s.o2 q) x y 2
  show W K _ ((rh m F G (Q3 i s.o0 s.o1 (λq=>if q∈h.take nb then i+3 else s.o2 q)) (M1 (i+4) s.i0 s.i1 (TT.put s.i2 (i+3) (h.take nb))) (s.path.drop na) (h.drop nb) (.val (.int (i:Int))) (.own [.int (TT.pv F i:Nat),.int (TT.pv G i:Nat)]) z8 z9).set 2 (.tr ((Q3 i s.o0 s.o1 (λq=>if q∈h.take nb then i+3 else s.o2 q)).put [] (.lst (((List.range i).map λj=>oN [s.o0 (j+3),s.o1 (j+3),(λq=>if q∈h.take nb then i+3 else s.o2 q) (j+3)])++[.lst [.leaf (.int (x:Int)),.leaf (.int (y:Int)),.leaf (.int ((2:Nat):Int))]]))))) _
  rw[eo];show W K _ (rh m F G (Q3 (i+1) (TT.put s.o0 (i+3) x) (TT.put s.o1 (i+3) y) (TT.put (λq=>if q∈h.take nb then i+3 else s.o2 q) (i+3) 2)) (M1 (i+4) s.i0 s.i1 (TT.put s.i2 (i+3) (h.take nb))) (s.path.drop na) (h.drop nb) (.val (.int (i:Int))) (.own [.int (TT.pv F i:Nat),.int (TT.pv G i:Nat)]) z8 z9) _
  refine A8 (aD2 (u0:=M1 (i+4) s.i0 s.i1 (TT.put s.i2 (i+3) (h.take nb))) (π:=[]++[x]++[0]) (bA3 0 (bA3 x aT8 (C9 (P6 rfl) (bH4 A6) rfl hpl) rfl (λu _=>⟨u,rfl⟩)) A6 rfl (λu0 h=>by cases h;exact⟨_,aU1 (by lia)⟩)) rfl (dX1 (by lia)) (bU8 (N4 A6 (B0 rfl))) ?_ ?_ (aA0 rfl rfl c8 c9))
  .rw[Aa3];unfold sizeLine;lia
  have ej:=dM5 (n:=i+4) (q:=x) (i0:=s.i0) (i1:=s.i1) (i2:=TT.put s.i2 (i+3) (h.take nb)) (by lia) (i+3)
  rw[<- e3]at ej;show W K _ ((rh m F G (Q3 (i+1) (TT.put s.o0 (i+3) x) (TT.put s.o1 (i+3) y) (TT.put (λq=>if q∈h.take nb then i+3 else s.o2 q) (i+3) 2)) (M1 (i+4) s.i0 s.i1 (TT.put s.i2 (i+3) (h.take nb))) (s.path.drop na) (h.drop nb) (.val (.int (i:Int))) (.own [.int (TT.pv F i:Nat),.int (TT.pv G i:Nat)]) z8 z9).set 3 (.tr ((M1 (i+4) s.i0 s.i1 (TT.put s.i2 (i+3) (h.take nb))).put ([]++[x]++[0]) (.lst (((s.i0 x).map λ(x:Nat)=>OT.leaf (.int (x:Int)))++[.leaf (.int (3+(i:Int)))]))))) _
  rw[ej];show W K _ (rh m F G (Q3 (i+1) (TT.put s.o0 (i+3) x) (TT.put s.o1 (i+3) y) (TT.put (λq=>if q∈h.take nb then i+3 else s.o2 q) (i+3) 2)) (M1 (i+4) (TT.put s.i0 x (s.i0 x++[i+3])) s.i1 (TT.put s.i2 (i+3) (h.take nb))) (s.path.drop na) (h.drop nb) (.val (.int (i:Int))) (.own [.int (TT.pv F i:Nat),.int (TT.pv G i:Nat)]) z8 z9) _
  refine A8 (aD2 (u0:=M1 (i+4) (TT.put s.i0 x (s.i0 x++[i+3])) s.i1 (TT.put s.i2 (i+3) (h.take nb))) (π:=[]++[y]++[1]) (bA3 1 (bA3 y aT8 (C9 (P6 rfl) (bH4 A6) rfl hhl) rfl (λu _=>⟨u,rfl⟩)) A6 rfl (λu0 h=>by cases h;exact⟨_,aU1 (by lia)⟩)) rfl (dV5 (by lia)) (bU8 (N4 A6 (B0 rfl))) ?_ ?_ (aA0 rfl rfl c8 c9))
  .rw[Aa3];unfold sizeLine;lia
  have ek:=dE1 (n:=i+4) (q:=y) (i0:=TT.put s.i0 x (s.i0 x++[i+3])) (i1:=s.i1) (i2:=TT.put s.i2 (i+3) (h.take nb)) (by lia) (i+3)
  rw[<- e3]at ek;show W K _ ((rh m F G (Q3 (i+1) (TT.put s.o0 (i+3) x) (TT.put s.o1 (i+3) y) (TT.put (λq=>if q∈h.take nb then i+3 else s.o2 q) (i+3) 2)) (M1 (i+4) (TT.put s.i0 x (s.i0 x++[i+3])) s.i1 (TT.put s.i2 (i+3) (h.take nb))) (s.path.drop na) (h.drop nb) (.val (.int (i:Int))) (.own [.int (TT.pv F i:Nat),.int (TT.pv G i:Nat)]) z8 z9).set 3 (.tr ((M1 (i+4) (TT.put s.i0 x (s.i0 x++[i+3])) s.i1 (TT.put s.i2 (i+3) (h.take nb))).put ([]++[y]++[1]) (.lst (((s.i1 y).map λ(x:Nat)=>OT.leaf (.int (x:Int)))++[.leaf (.int (3+(i:Int)))]))))) _
  rw[ek];show W K _ (rh m F G (Q3 (i+1) (TT.put s.o0 (i+3) x) (TT.put s.o1 (i+3) y) (TT.put (λq=>if q∈h.take nb then i+3 else s.o2 q) (i+3) 2)) (M1 (i+4) (TT.put s.i0 x (s.i0 x++[i+3])) (TT.put s.i1 y (s.i1 y++[i+3])) (TT.put s.i2 (i+3) (h.take nb))) (s.path.drop na) (h.drop nb) (.val (.int (i:Int))) (.own [.int (TT.pv F i:Nat),.int (TT.pv G i:Nat)]) z8 z9) _
  refine V2 (ds:=nI (s.path.drop na).reverse) rfl (N4 A6 (B0 rfl)) ?_ ⟨.val (.int (i:Int)),.own [.int (TT.pv F i:Nat),.int (TT.pv G i:Nat)],z8,z9,⟨rfl,rfl,c8,c9⟩,?_⟩ (aA0 rfl rfl c8 c9)
  .rw[G5,Ae1,Bm];unfold sizeLine;lia
  rw[hst];simp only[TT.S.step,sk,hh,ex,ey,Bp];rw[e3];unfold rh
  simp[nI]
  rfl
 .rintro _ ⟨U,J,x8,Y,⟨b6,b7,b8,M⟩,rfl⟩;have em:(aG2 0 (((fl F m).map PyData.int).length:Int).toNat).length=m:=by rw[W2,bD9];lia
  rw[em];have GI:=TT.k8 R m (Aa7 _);have Lm:=TT.bK7 GI.inv;have I2:=TT.dQ1 R m (Aa7 _);have pl:=GI.p;have hl:=GI.h;have gk:=GI.k;have gle:=GI.le;have gle2:=GI.le2;obtain⟨p,hp⟩:=GI.inv.pe;obtain⟨h,hh⟩:=GI.inv.he;have R2:=dV1 hp hh;have R0:=TT.aU7 (s:=TT.gst F G m);have R1:=TT.bM6 (s:=TT.gst F G m);have RI:∀q,3<=q->q<m+3->(TT.gst F G m).row q=_:=λq h1 h2=>TT.W9 h1 (by rw[gk];exact h2)
  generalize hs:TT.gst F G m=s at Lm I2 pl hl gk hp hh R2 R0 R1 RI k ⊢;rw[gk]at Lm;refine A8 (cC6 (λk ρ=>∃j,j+k+1=s.path.length/\ρ=rh m F G (Q3 m s.o0 s.o1 s.o2) (M1 (m+3) s.i0 s.i1 s.i2) (s.path.drop j) (s.h1 j) U J x8 Y) ⟨s.path.length-1,0,by rw[hp];simp,rfl⟩ ?_)
  rintro k0 _ ⟨j,B,rfl⟩;refine⟨_,C1 (z4 (M9 (A1 (P6 rfl) A5)) A6),?_⟩;have el:(nI (s.path.drop j).reverse).length=k0+1:=by rw[G5,Ae1,Bm];lia
  rw[el];by_cases hk:k0=0
  .subst hk;rw[Ab (by simp)]
   have ej:s.path.drop j=[0]:=by
    rw[hp,Ab7]at B;rw[hp,Dy,List.drop_of_length_le (by simp at B;lia)]
    have:j-p.length=0:=by simp at B;lia
    rw[this];rfl
   have eh:s.h1 j=(p.reverse++h)++[1]:=by
    unfold TT.S.h1;rw[hp,Ab7]at B;rw[hp,hh,List.take_append_of_le_length (by simp at B;lia),Dh (by simp at B;lia)]
    simp
   rw[ej,eh];generalize hq:p.reverse++h=q at R2;have ql:q.length<=3000:=by
    have:=Lm 2
    rw[R2]at this;simp at this;lia
   have ei:s.i2=TT.put s.i2 2 (q.take 0):=by
    funext z;by_cases e:z=2
    .rw[e,TT.G6,I2];rfl
    .rw[TT.F5 e]
   rw[ei];refine A8 (cC6 (λk ρ=>∃j,j+k=q.length/\ρ=rh m F G (Q3 m s.o0 s.o1 s.o2) (M1 (m+3) s.i0 s.i1 (TT.put s.i2 2 (q.take j))) [0] ((q++[1]).drop j) U J x8 Y) ⟨q.length,0,by lia,rfl⟩ ?_)
   rintro k1 _ ⟨X,hj1,rfl⟩;refine⟨_,C1 (z4 (M9 (A1 (P6 rfl) A5)) A6),?_⟩;have el:(nI ((q++[1]).drop X).reverse).length=k1+1:=by rw[G5,Ae1,Bm];simp;lia
   rw[el];by_cases hk:k1=0
   .subst hk;rw[Ab (by simp)]
    have ej1:X=q.length:=by lia
    subst ej1;rw[Dc];refine dJ6 (i:=3) rfl (dJ6 (i:=2) rfl ?_);rw[dB0,dA7];show W K _ (rh2 m F G (.list ((List.range m).map λj=>lN [s.o0 (j+3),s.o1 (j+3),s.o2 (j+3)])) (.list ((List.range (m+3)).map λz=>.tuple [lN (s.i0 z),lN (s.i1 z),lN (TT.put s.i2 2 q z)])) (nI ([0]:AC).reverse) (nI ((q++[1]).drop q.length).reverse) U J x8 Y .no .no .no .no) _
    generalize hiD:(PyData.list ((List.range (m+3)).map λz=>.tuple [lN (s.i0 z),lN (s.i1 z),lN (TT.put s.i2 2 q z)]))=iD
    generalize hoD:(PyData.list ((List.range m).map λj=>lN [s.o0 (j+3),s.o1 (j+3),s.o2 (j+3)]))=oD
    generalize hpD:nI ([0]:AC).reverse=pD;generalize hhD:nI ((q++[1]).drop q.length).reverse=hD;show W K _ (rh2 m F G oD iD pD hD U J x8 Y .no .no .no .no) _;have sqi:sq iD=some ((List.range (m+3)).map λz=>.tuple [lN (s.i0 z),lN (s.i1 z),lN (TT.put s.i2 2 q z)]):=by rw[<- hiD];rfl
    have sqo:sq oD=some ((List.range m).map λj=>lN [s.o0 (j+3),s.o1 (j+3),s.o2 (j+3)]):=by rw[<- hoD];rfl
    have L0:=Lm 0
    have L1:=Lm 1
    have L2':=Lm 2
    rw[R0]at L0;rw[R1]at L1;rw[R2]at L2';simp only[Av,Ab7,Ae1,List.length_nil]at L0 L1 L2';refine A8 (N2 (ds:=[lN (s.row 0)]) (G3 (A1 (EF.toN (Z4 (l:=[1]++s.i0 0) (l':=[2]) (EF.e' (Z4 (l:=[1]) (l':=s.i0 0) (EF.e' (G3 (A1 A6 A5))) (C9 (C9 (B0 rfl) A6 sqi (aZ9 (q:=0) (by lia))) A6 rfl rfl) (by simp;lia))) (EF.e' (G3 (A1 A6 A5))) (by simp;lia)) (by rw[R0];simp)) A5)) ?_ (show 10<14 by decide))
    show W K _ (rh2 m F G oD iD pD hD U J x8 Y (.own [lN (s.row 0)]) .no .no .no) _
    refine A8 (V2 (d:=lN (s.row 1)) rfl (EF.toN (Z4 (l:=[2]++(s.i1 1).reverse) (l':=[0]) (EF.e' (Z4 (l:=[2]) (l':=(s.i1 1).reverse) (EF.e' (G3 (A1 A6 A5))) (EF.e' (cV5 (C9 (C9 (B0 rfl) A6 sqi (aZ9 (q:=1) (by lia))) A6 rfl rfl))) (by simp;lia))) (EF.e' (G3 (A1 A6 A5))) (by simp;lia)) (by rw[R1];simp)) (by show 1<_;unfold sizeLine;lia) ?_ (cO7 b6 b7 b8 M rfl rfl rfl rfl))
    show W K _ (rh2 m F G oD iD pD hD U J x8 Y (.own [lN (s.row 0),lN (s.row 1)]) .no .no .no) _
    refine A8 (V2 (d:=lN (s.row 2)) rfl (EF.toN (Z4 (l:=[0]++TT.put s.i2 2 q 2) (l':=[1]) (EF.e' (Z4 (l:=[0]) (l':=TT.put s.i2 2 q 2) (EF.e' (G3 (A1 A6 A5))) (C9 (C9 (B0 rfl) A6 sqi (aZ9 (q:=2) (by lia))) A6 rfl rfl) (by rw[TT.G6];simp;lia))) (EF.e' (G3 (A1 A6 A5))) (by rw[TT.G6];simp;lia)) (by rw[R2,TT.G6];simp)) (by show 2<_;unfold sizeLine;lia) ?_ (cO7 b6 b7 b8 M rfl rfl rfl rfl))
    show W K _ (rh2 m F G oD iD pD hD U J x8 Y (.own ((List.range (0+3)).map λz=>lN (s.row z))) .no .no .no) _
    refine A8 (Y5 (a8 (A1 (M9 (A1 (B0 rfl) A5) sqo) A5) ?_ ?_) (λv ρ=>∃x11 x12 x13,(x11.nb=true/\x12.nb=true/\x13.nb=true)/\ρ=rh2 m F G oD iD pD hD U J x8 Y (.own ((List.range (v+3)).map λz=>lN (s.row z))) x11 x12 x13) ⟨.no,.no,.no,⟨rfl,rfl,rfl⟩,rfl⟩ ?_ ?_)
    .simp <;> lia
    .simp <;> lia
    .rintro v d _ N ⟨x11,x12,x13,⟨b11,b12,b13⟩,rfl⟩;obtain⟨rfl,hv⟩:=Z8 N;have hv:v<m:=by simpa using hv
     have e3:(3:Int)+(v:Int)=((v+3:Nat):Int):=by lia
     have i2v:TT.put s.i2 2 q (v+3)=s.i2 (v+3):=TT.F5 (by lia)
     have Rv:=RI (v+3) (by lia) (by lia)
     have Lv:=Lm (v+3)
     rw[Rv]at Lv;simp only[Av,Ab7,Ae1]at Lv;refine⟨_,F8,?_⟩;refine A8 (E5 (d:=.tuple [lN (s.i0 (v+3)),lN (s.i1 (v+3)),lN (s.i2 (v+3))]) (C9 (B0 rfl) (N4 A6 (B0 rfl)) sqi ?_) ?_)
     .rw[e3,aZ9 (by lia),i2v]
     show W K _ (rh2 m F G oD iD pD hD U J x8 Y (.own ((List.range (v+3)).map λz=>lN (s.row z))) (.val (.int (v:Int))) (.val (.tuple [lN (s.i0 (v+3)),lN (s.i1 (v+3)),lN (s.i2 (v+3))])) x13) _
     refine A8 (N2 (ds:=nI ([s.o0 (v+3)]++s.i2 (v+3)++[s.o1 (v+3)]++s.i0 (v+3))) (Z4 (EF.e' (Z4 (l':=[s.o1 (v+3)]) (EF.e' (Z4 (l:=[s.o0 (v+3)]) (EF.e' (G3 (A1 (C9 (d':=.int (s.o0 (v+3):Nat)) (C9 (B0 rfl) (B0 rfl) sqo (aZ9 hv)) A6 rfl rfl) A5) (show 1<=16777216 by decide))) (C9 (B0 rfl) A6 rfl rfl) (by simp;lia)))
      (EF.e' (G3 (A1 (C9 (d':=.int (s.o1 (v+3):Nat)) (C9 (B0 rfl) (B0 rfl) sqo (aZ9 hv)) A6 rfl rfl) A5) (show 1<=16777216 by decide))) (by simp;lia))) (C9 (B0 rfl) A6 rfl rfl) (by simp;lia)) ?_ (show 13<14 by decide))
     show W K _ (rh2 m F G oD iD pD hD U J x8 Y (.own ((List.range (v+3)).map λz=>lN (s.row z))) (.val (.int (v:Int))) (.val (.tuple [lN (s.i0 (v+3)),lN (s.i1 (v+3)),lN (s.i2 (v+3))])) (.own (nI ([s.o0 (v+3)]++s.i2 (v+3)++[s.o1 (v+3)]++s.i0 (v+3))))) _
     refine V2 (ds:=(List.range (v+3)).map λz=>lN (s.row z)) (d:=lN (s.row (v+3))) rfl (EF.toN (Z4 (l:=[s.o0 (v+3)]++s.i2 (v+3)++[s.o1 (v+3)]++s.i0 (v+3)++[s.o2 (v+3)]) (l':=(s.i1 (v+3)).reverse) (EF.e' (Z4 (l:=[s.o0 (v+3)]++s.i2 (v+3)++[s.o1 (v+3)]++s.i0 (v+3)) (l':=[s.o2 (v+3)]) (P6 rfl) (EF.e' (G3 (A1 (C9 (d':=.int (s.o2 (v+3):Nat)) (C9 (B0 rfl) (B0 rfl) sqo (aZ9 hv)) A6 rfl rfl) A5) (show 1<=16777216 by decide))) (by simp;lia)))
      (EF.e' (cV5 (C9 (B0 rfl) A6 rfl rfl))) (by simp;lia)) (by rw[Rv];simp)) ?_ ⟨.val (.int (v:Int)),.val (.tuple [lN (s.i0 (v+3)),lN (s.i1 (v+3)),lN (s.i2 (v+3))]),.own (nI ([s.o0 (v+3)]++s.i2 (v+3)++[s.o1 (v+3)]++s.i0 (v+3))),⟨rfl,rfl,rfl⟩,?_⟩ (cO7 b6 b7 b8 M rfl rfl rfl rfl)
     .rw[Aa3,Cz];unfold sizeLine;lia
     .have er:(List.range (v+3)).map (λz=>lN (s.row z))++[lN (s.row (v+3))]=(List.range (v+1+3)).map λz=>lN (s.row z):=by
       rw[show v+1+3=(v+3)+1 by lia,Bh (n:=v+3),Ad2];rfl
      rw[er];rfl
    rintro _ ⟨x11,x12,x13,⟨b11,b12,b13⟩,rfl⟩;rw[W2];have e4:((((List.range m).map λj=>lN [s.o0 (j+3),s.o1 (j+3),s.o2 (j+3)]).length:Int)).toNat=m:=by simp
    rw[e4];refine bG8 (i:=10) rfl ?_;exact E9 (N3 (A1 (B0 rfl) (A1 (B0 rfl) A5))) (by rw[<- hoD])
   .have N:decide (((k1+1:Nat):Int)>1)=true:=by simp;lia
    rw[N,Ac rfl];have hlt:X<q.length:=by lia
    have e1:(q++[1]).drop X=q[X]::(q++[1]).drop (X+1):=by
     rw[Cb (by simp;lia),List.getElem_append_left hlt]
    have e2:q.take (X+1)=q.take X++[q[X]]:=Br hlt
    refine cQ7 (i:=3) (j:=5) (d:=.int (q[X]:Nat)) (u0:=M1 (m+3) s.i0 s.i1 (TT.put s.i2 2 (q.take X))) (π:=[]++[2]++[2]) (bA3 2 (bA3 2 aT8 A6 rfl (λu _=>⟨u,rfl⟩)) A6 rfl (λu0 h=>by cases h;exact⟨_,aU1 (by lia)⟩))
     (cR2 (ds:=nI ((q++[1]).drop (X+1)).reverse) ?_ (aA0 b6 b7 b8 M)) (by decide) ⟨_,rfl,rfl⟩ rfl rfl (cY8 (by lia)) ?_ ⟨k1-1,by lia,X+1,by lia,?_⟩ (aA0 (m:=m) (F:=F) (G:=G) (o:=Q3 m s.o0 s.o1 s.o2) (i:=M1 (m+3) s.i0 s.i1 (TT.put s.i2 2 (q.take X))) (p:=[0]) (h:=(q++[1]).drop (X+1)) b6 b7 b8 M)
    .show some (Sl.own (nI ((q++[1]).drop X).reverse))=_
     rw[e1,List.reverse_cons,o9];rfl
    .rw[Aa3,TT.G6,Ad1];unfold sizeLine;lia
    .rw[cJ6 (by lia),cT3,TT.G6,<- e2];rfl
  .have N:decide (((k0+1:Nat):Int)>1)=true:=by simp;lia
   rw[N,Ac rfl];obtain⟨x,hx⟩:∃x,s.path[j]? = some x:=⟨_,Aa2 (by lia)⟩
   have e1:s.path.drop j=x::s.path.drop (j+1):=by
    obtain⟨h1,h2⟩:=Ab0.mp hx;rw[<- h2];exact Cb h1
   have e2:s.h1 (j+1)=x::s.h1 j:=by
    unfold TT.S.h1;obtain⟨h1,h2⟩:=Ab0.mp hx;rw[Br h1,h2];simp
   refine bE1 (ds:=nI (s.h1 j).reverse) (cR2 (d:=.int (x:Int)) (ds:=nI (s.path.drop (j+1)).reverse) ?_ (aA0 b6 b7 b8 M)) rfl rfl ?_ ⟨k0-1,by lia,j+1,by lia,?_⟩ (aA0 (m:=m) (F:=F) (G:=G) (o:=Q3 m s.o0 s.o1 s.o2) (i:=M1 (m+3) s.i0 s.i1 s.i2) (p:=s.path.drop (j+1)) (h:=s.h1 j) b6 b7 b8 M)
   .show some (Sl.own (nI (s.path.drop j).reverse))=_
    rw[e1];simp[nI]
   .rw[G5,Ae1];unfold TT.S.h1 PySem.sizeLine;simp only[Ab7,Ae1,Ad1]
    lia
   .rw[e2];unfold rh
    simp[nI]
end
theorem bJ1:B8 ["_law_script", "_law_k"] ["_law_script", "_law_k"] (A9 u6):={}
theorem aQ8:B8 ["_law_turn", "_law_at"] ["_law_turn"] (A9 aH1):={}
theorem cP0 {K:Frag}{pre:AF->AF->Prop}{n:Nat}(h:∀ds d,pre ds d->ds.length=n):∀vs H Q E,spL K pre vs H Q E->vs.length=n:=λvs H Q E ⟨ds,S,d,_,r,p,_⟩=>by
 have e:=r.length
 rw[e];exact h ds d p
def cl (ns:AD)(k:Int):Int:=(ns[k.toNat]?).getD 0
def dX3 (ds:AF)(d:PyData):Prop:=∃ns k,0<=k/\ds=[lI ns,.int k]/\d=.int (cl ns k)
def tN (l:AC):PyData:=.tuple (nI l)
abbrev tD (d:AA):PyData:=.tuple (d.map tN)
abbrev vD (d:AA):Sl:=.val (tD d)
def dI9 (ds:AF)(d:PyData):Prop:=∃l:AC,l≠[]/\l.length<=10000/\ds=[lN l]/\d=tN (TT.B5 l)
theorem aC1 (M:Nat):∀l:AC,(l.map λ(x:Nat)=>(x:Int)).idxOf (M:Int)=l.idxOf M
 | []=>rfl
 | b::l=>by
  rw[Ac7,List.idxOf_cons,List.idxOf_cons,aC1 M l];by_cases e:b=M
  .subst e;simp
  .have e':¬(b:Int)=(M:Int):=by lia
   have h1:(b==M)=false:=by simpa using e
   have w:((b:Int)==(M:Int))=false:=by simpa using e'
   rw[h1,w]
def cL (l:AC):AD:=l.map λ(x:Nat)=>(x:Int)
def mnI:AD->Int
 | []=>0
 | [x]=>x
 | x::y::l=>min x (mnI (y::l))
theorem aD6:∀{l:AD},l≠[]->mnI l∈l/\∀c∈l,mnI l<=c
 | [],h=>absurd rfl h
 | [x],_=>by simp[mnI]
 | x::y::l,_=>by
  obtain⟨a,b⟩:=aD6 (l:=y::l) (by simp)
  show min x (mnI (y::l))∈_/\∀c∈_,min x (mnI (y::l))<=c
  refine⟨?_,λc hc=>?_⟩
  .by_cases h:x<=mnI (y::l)
   .rw[Int.min_eq_left h];exact Al
   .rw[Int.min_eq_right (by lia)];exact Ad4 _ a
  .rcases Aa1.mp hc with rfl | hc
   .lia
   .have:=b c hc;lia
def z5 (l:AD):AD:=l.drop (l.idxOf (mnI l))++l.take (l.idxOf (mnI l))
def eN8 (ds:AF)(d:PyData):Prop:=∃l:AD,l≠[]/\l.length<=10000/\ds=[lI l]/\d=tI (z5 l)
theorem eN3 (h:l≠[]):mnI (cL l)=((TT.mn l:Nat):Int):=by
 obtain⟨a,b⟩:=TT.aO7 h;obtain⟨c,d⟩:=aD6 (l:=cL l) (by unfold cL;simpa using h)
 obtain⟨x,w,e⟩:=Aa8.mp (show mnI (cL l)∈l.map λ(x:Nat)=>(x:Int) from c)
 have h1:=b x w
 have r:=d _ (Aa8.mpr ⟨_,a,rfl⟩)
 lia
theorem aP3 (l:AC):z5 (cL l)=cL (TT.B5 l):=by
 by_cases h:l=[]
 .subst h;rfl
 .unfold z5;rw[eN3 h,show(cL l).idxOf ((TT.mn l:Nat):Int)=l.idxOf (TT.mn l) from aC1 (TT.mn l) l]
  unfold TT.B5 cL
  simp
section
variable {P:Program}{w:World}{K:Frag}{mg:Str->Option Value}{base:Heap}{a:Ad}
theorem cZ2 (T:Tx K mg a):FnOk P w K mg base CX0 1 a.aL8 a.aL4 ["_law_script", "_law_k"] (spV K dX3):=by
 refine T.U2.F.ok bJ1 (Y7 λds d ⟨_,_,_,e,_⟩=>by rw[e];rfl) (λU A Y s H vs Q E N h=>?_)
 obtain⟨ds,S,d,J,r,⟨j,k,M,rfl,rfl⟩,q⟩:=h;refine⟨_,(A3 (L6 (B9 aR2 (pv 1) (C0 P0 (by rfl) T.O9 Am (A0 (pv 0) A2)) (D8 _)) (A7 (B7 (B4 F4 (pv 0) (pv 1) (λ_ _=>rfl)))) E1)
   (A7 (B7 A4))),M0 J r ?_ q⟩
 refine A8 (K9 (C1 (z4 (B0 rfl) (M9 (A1 (B0 rfl) A5)))) (λh=>(E9 (d:=.int (cl j k)) (C9 (B0 rfl) (B0 rfl) rfl ?_) rfl)) (λh=>E2 ?_))
 .have h:k<(j.map PyData.int).length:=Aj h
  rw[Aa3]at h;refine S1 k.toNat (by lia) ?_
  have X:k.toNat<j.length:=by lia
  rw[Aa9,Aa2 X];unfold cl;rw[Aa2 X];rfl
 have h:¬k<((j.map PyData.int).length:Int):=Ar h
 rw[Aa3]at h;refine(E9 A6 ?_);show PyData.int 0=.int (cl j k);unfold cl;rw[Ad6 (by lia)];rfl
theorem dN8 (T:Tx K mg a):FnOk P w K mg base CX0 1 a.aE6 a.aG9 ["_law_turn"] (spV K eN8):=by
 refine T.R9.F.ok aQ8 (Y7 λds d ⟨_,_,_,e,_⟩=>by rw[e];rfl) (λJ A U s H vs Q E R h=>?_)
 obtain⟨ds,S,d,M,r,⟨l,X,N,rfl,rfl⟩,q⟩:=h;refine⟨_,(A3 (psS 1 aQ8 (S7 Ab1 PySem.F.slot_list_index PySem.F.type_list_index (dC7 K) (pv 0) (A0 (C0 (dD4 K rfl) (by rfl) T.cZ4 boot_min (A0 (pv 0) A2)) A2)))
   (A7 (B7 (K5 V9 (by rfl) T.S5 boot_tuple (A0 (B1 (O5 K) (P9 cA5 (pv 0) (S0 (pv 1)) Z1) (P9 cA5 (pv 0) Z1 (S0 (pv 1)))) A2))))),M0 M r ?_ q⟩
 have Y:=aD6 X
 have j:l.idxOf (mnI l)<=(l.map PyData.int).length:=by rw[Aa3];exact Cv (Ac4 Y.1)
 refine A8 (E5 (d:=.int (l.idxOf (mnI l):Nat)) (dK2 (l:=l) v0 (eQ3 (A1 v0 A5) Y) Y.1) ?_);refine E9 (Y8 (A1 (EF.e' (aN7 (EF.e' (cX0 (ds:=l.map PyData.int) v0 (U1 v1) j7 (N0 l))) (EF.e' (cX0 (ds:=l.map PyData.int) v0 j7 (U1 v1) (N0 l))) (V6 _ _ (N0 l)) (V6 _ _ (N0 l)) ?_)) A5) ?_) ?_
 .rw[aO0 j,aL2 j,Bm,Ad1,Aa3];unfold sizeLine;lia
 .rw[aM3,V6 _ _ (N0 l),V6 _ _ (N0 l)];rfl
 .show PyData.tuple _=tI _
  rw[aO0 j,aL2 j,<- List.map_drop,<- List.map_take,<- Ad2];try rfl
theorem aX0 (T:Tx K mg a):FnOk P w K mg base CX0 1 a.aE6 a.aG9 ["_law_turn"] (spV K dI9):=
 (dN8 T).imp λ_ _ _ _ ⟨ds,S,d,j,r,⟨l,h,s,e,e'⟩,q⟩=>⟨ds,S,d,j,r,⟨cL l,by unfold cL;simpa using h,by unfold cL;simpa using s,by rw[e];unfold lN lI nI cL;simp,by rw[e',aP3];unfold tN tI nI cL;simp⟩,q⟩
end
end K09
namespace LV
open PySem L2
section
theorem bE4 (n:Nat)(U:E K true t ρ d)(hi:ρ[i]? = some (.own ds))(J:E K false tb ρ (.int k))(r:k=n)(N:n<ds.length)(M:R.nx (ρ.set i (.own (ds.set n d))))(nb:i7 ρ=true:=by rfl) :
  W K (u8 t (dZ5 (C7 i) tb cU5)) ρ R:=λS B D σ H o I s=>by
 refine U S B σ H o I _ λx X Y Q=>?_
 obtain⟨p,hp,a,xs,b,c⟩:=(I.grow Y).own i ds hi;refine⟨_,a,?_⟩;refine J S B σ X o (I.grow Y) _ λw F e j=>?_
 cases j
 have P:=c.length
 refine⟨p,xs,k,n,rfl,rfl,e _ _ b,by unfold ixN;rw[Ac (by lia),Ac (by lia)];simp[r],?_⟩
 exact s.nx _ σ _ _ (((I.grow Y).grow e).upd hi hp ((c.mono (L7 e)).set n (Q.mono (L7 e))) (O8 nb)) M
theorem Reps.rep (r:Reps K H xs ds):∀n:Nat,Reps K H (List.replicate n xs).flatten (List.replicate n ds).flatten
 | 0=>.nil
 | n+1=>by
  rw[Bl,Bl,Bu,Bu];exact r.append (Reps.rep r n)
theorem cF1 (h:N8 ds=true):∀n:Nat,N8 (List.replicate n ds).flatten=true
 | 0=>rfl
 | n+1=>by rw[Bl,Bu,aM3,h,cF1 h n];rfl
theorem dT1 (J:EF K ta ρ ds)(M:E K false tb ρ (.int k))(hi:N8 ds=true)(h1 : -(2^63)<=k)(U:k<2^63)(N:ds.length*k.toNat<=sizeLine):EF K (tOp eR7 ta tb) ρ (List.replicate k.toNat ds).flatten:=λS B σ H o I Q q=>
 J S B σ H o I _ λp xs s r n1 X F=>M S B σ s o (I.grow r) _ λy Y w P=>by
  cases P
  have j:Reps K Y xs ds:=(F.mono X1).mono w
  refine⟨p,k,xs,rfl,rfl,w _ _ X,h1,U,by rw[j.length];exact N,λR e=>?_⟩
  exact q R _ _ (L2.Same.tr (L2.Same.tr r w) (G0 e)) (p4 (L2.Same.tr r w) e) C4 (aL3 (I.grow (L2.Same.tr r w)).lists e (j.rep _) (cF1 hi _))
end
section
theorem cL1:∀{ts:AB} {vs:List V},Reps K H vs (ts.map tI)->(∀t∈ts,t≠[])->TupsV K H vs ts
 | [],_,r,_=>by cases r;exact trivial
 | t::ts,_,r,h=>by
  cases r with
  | cons a b=>
   refine⟨?_,cL1 b λt ht=>h t (by simp[ht])⟩
   cases a with
   | tup s r=>rw[r.ints]at s;exact⟨_,rfl,s,h t (by simp)⟩
theorem bW4 {H:Hp}{vs:List V}{ts:AB}(r:Reps K H vs (ts.map tI)):∀{q:AC},(∀i∈q,i<vs.length)->Reps K H (q.map λi=>vs.getD i .non) ((q.map λi=>ts.getD i []).map tI)
 | [],_=>.nil
 | i::q,h=>by
  have hi:=h i (by simp)
  have Y:=r.length
  rw[Aa3]at Y;obtain⟨v,h1,w⟩:=r.get' (i:=i) (d:=tI (ts.getD i [])) (by
   rw[Aa9,Aa2 (by lia)]
   simp[List.getD,Aa2 (show i<ts.length by lia)])
  have e:vs.getD i .non=v:=by simp[List.getD,h1]
  rw[Ac7,Ac7,Ac7,e];exact .cons w (bW4 r λj s=>h j (by simp[s]))
theorem bO7 {t:TA}{ts ss:AB}(F:A K false t ρ [.list (ts.map tI)])(U:∀t∈ts,t≠[])(R:ts.length<64)(hp:ss.Perm ts)(hs:ss.Pairwise P5) :
  EF K (tCB (λxs H Q=>∃(p:Addr) (ys:List V) (ts:AB),xs=[.ref p]/\SqL K H p ys/\TupsV K H ys ts/\ys.length<64 /\
   ∀a (q:AC),H a=none->q.Perm (List.range ys.length)->(q.map λi=>ts.getD i []).Pairwise P5->Q (.ref a) (upd H a (.lst (q.map λi=>ys.getD i .non)))) t) ρ (ss.map tI):=
 eE9 F (aY0 dO9 ss) λH vs Q r q=>by
  cases r with
  | cons a b=>
   cases b
   cases a with
   | @lst p xs _ s r=>
    have P:=r.length
    rw[Aa3]at P;refine⟨p,xs,ts,rfl,s,cL1 r U,by lia,λa X h1 Y M=>q a _ h1 ?_⟩
    have e:(X.map λi=>ts.getD i [])=ss:=by
     have w:(X.map λi=>ts.getD i []).Perm ts:=by
      have J:(X.map λi=>ts.getD i []).Perm ((List.range xs.length).map λi=>ts.getD i []):=Y.map _
      have N:(List.range xs.length).map (λi=>ts.getD i [])=ts:=by
       refine List.ext_getElem? λj=>?_
       by_cases B:j<xs.length
       .rw[Z0 B];simp[List.getD,Aa2 (show j<ts.length by lia)]
       .rw[Ad6 (by simp;lia),Ad6 (by lia)]
      rw[N]at J;exact J
     exact List.Perm.eq_of_pairwise (le:=P5) (λa b _ _ h1 Y=>cK5 a b h1 Y) M hs (w.trans hp.symm)
    have:=bW4 r (q:=X) λi hi=>Ab5.mp (Y.mem_iff.mp hi)
    rw[e]at this;exact this
end
end LV
namespace K09
open PySem L2 LV PyProof.Rows
theorem bS0:B8 ["_law_cell", "_law_k"] ["_law_cell", "_law_k"] (A9 aF9):={}
theorem dQ6 (h : -1000000000000000000<i/\i<1000000000000000000)(h' : -1000000000000000000<j/\j<1000000000000000000):CMulB i j:=by
 have:(1000000000000000000:Nat)<2^512:=by decide
 constructor <;> lia
def mx0 (c k:Int):Int:=(c % 1000000007*(k+3)*48271+(k+1)*(k+5)*69621) % 2147483647
def mx (c k:Int):Int:=mx0 c k*40692 % 2147483399
theorem eU7 (c k:Int):0<=mx0 c k/\mx0 c k<2147483647:=⟨Bq _ (by decide),Cd _ (by decide)⟩
theorem eX1 (c k:Int):0<=mx c k/\mx c k<2147483399:=⟨Bq _ (by decide),Cd _ (by decide)⟩
def cG4 (ds:AF)(d:PyData):Prop:=∃c k,(0<=k/\k<=1000)/\ds=[.int c,.int k]/\d=.int (mx c k)
theorem dI3 {x y A B:Int}(h:0<=x/\x<=A)(h':0<=y/\y<=B):0<=x*y/\x*y<=A*B:=⟨Int.mul_nonneg h.1 h'.1,Int.mul_le_mul h.2 h'.2 h'.1 (Int.le_trans h.1 h.2)⟩
section
variable {P:Program}{w:World}{K:Frag}{mg:Str->Option Value}{base:Heap}{a:Ad}
theorem bC5 (T:Tx K mg a):FnOk P w K mg base CX0 1 a.bB7 a.bA9 ["_law_cell", "_law_k"] (spV K cG4):=by
 refine T.i4.F.ok bS0 (Y7 λds d ⟨_,_,_,e,_⟩=>by rw[e];rfl) (λX A j s H vs Q E hr h=>?_)
 obtain⟨ds,S,d,U,r,⟨c,k,⟨R,h1⟩,rfl,rfl⟩,q⟩:=h;have Y:0<=c % 1000000007/\c % 1000000007<=1000000007:=⟨Bq _ (by decide),Int.le_of_lt (Cd _ (by decide))⟩
 have J:=dI3 Y (y:=k+3) (B:=2000) ⟨by lia,by lia⟩
 have M:=dI3 (x:=k+1) (A:=2000) (y:=k+5) (B:=2000) ⟨by lia,by lia⟩ ⟨by lia,by lia⟩
 have N:=eU7 c k
 refine⟨_,(A7 (B7 (B1 J0 (B1 bD1 (B1 J0 (B1 N6 (B1 bD1 (B1 bD1 (B1 J0 (pv 0) A4) (B1 N6 (pv 1) A4)) A4) (B1 bD1 (B1 bD1 (B1 N6 (pv 1) A4) (B1 N6 (pv 1) A4)) A4)) A4) A4) A4))),M0 U r ?_ q⟩;refine E9 (d:=.int (mx c k)) (e_i (e_i (i:=mx0 c k) (e_i (N4 (e_i (e_i (e_i (B0 rfl) A6 ?_) (N4 (B0 rfl) A6) ?_) A6 ?_) (e_i (e_i (N4 (B0 rfl) A6) (N4 (B0 rfl) A6) ?_) A6 ?_)) A6 ?_) A6 (dQ6 (by lia) (by lia))) A6 (by decide)) rfl
 .decide
 .exact dQ6 (by lia) (by lia)
 .exact dQ6 (by lia) (by lia)
 .exact dQ6 (by lia) (by lia)
 .exact dQ6 (by lia) (by lia)
 .decide
end
end K09
namespace TT
def pk:Nat->Int->AC->AC
 | 0,_,_=>[]
 | n+1,r,l=>l.getD (r % l.length).toNat 0::pk n (r / l.length) (l.eraseIdx (r % l.length).toNat)
theorem cU0 {r:Int}{l:AC}(h:l≠[]):(r % l.length).toNat<l.length:=by
 have w:0<l.length:=Dd.mpr h
 have h1:=Bq r (b:=(l.length:Int)) (by lia)
 have e:=Cd r (b:=(l.length:Int)) (by lia)
 lia
theorem bN7:∀(l:AC) (i:Nat) (h:i<l.length),(l[i]::l.eraseIdx i).Perm l
 | a::l,0,h=>.refl _
 | a::l,i+1,h=>by
  have ih:=bN7 l i (by simpa using h)
  simp only[List.getElem_cons_succ,List.eraseIdx_cons_succ];exact(List.Perm.swap _ _ _).trans (ih.cons a)
theorem bY8:∀(n:Nat) (r:Int) (l:AC),l.length=n->(pk n r l).Perm l
 | 0,r,l,h=>by rw[List.length_eq_zero_iff.mp h];exact .nil
 | n+1,r,l,h=>by
  have w:l≠[]:=λe=>by rw[e]at h;simp at h
  have hi:=cU0 (r:=r) w
  unfold pk;have e:l.getD (r % l.length).toNat 0=l[(r % l.length).toNat]:=by simp[List.getD,Aa2 hi]
  rw[e];have j:=bY8 n (r / l.length) (l.eraseIdx (r % l.length).toNat) (by rw[List.length_eraseIdx_of_lt hi];lia)
  exact(j.cons _).trans (bN7 l _ hi)
theorem eS7 (h:l.Perm ((List.range m).map (· + 3))):Nm (m+3) λv=>([0,1,2]++l).getD v 0:=by
 have X:l.length=m:=by rw[h.length_eq];simp
 have nd:([0,1,2]++l).Nodup:=by
  have h1:l.Nodup:=h.nodup_iff.mpr (Ae0.mpr (Di.imp λh e=>h (by lia)))
  have j:∀x∈l,3<=x:=λx hx=>by
   obtain⟨y,_,e⟩:=Aa8.mp (h.mem_iff.mp hx)
   lia
  refine Aa4.mpr ⟨by decide,h1,λa s b Y e=>?_⟩
  have:=j b Y
  simp at s;lia
 have lt:∀x∈[0,1,2]++l,x<m+3:=λx hx=>by
  rcases Aa0.mp hx with hx | hx
  .simp at hx;lia
  .obtain⟨y,J,e⟩:=Aa8.mp (h.mem_iff.mp hx)
   have:=Ab5.mp J
   lia
 have M:([0,1,2]++l).length=m+3:=by simp[X]
 have at_:∀v,(r:v<m+3)->([0,1,2]++l).getD v 0=([0,1,2]++l)[v]'(by lia):=λv r=>by rw[Ac0,Aa2 (by lia)];rfl
 refine⟨λv r=>?_,λv w r U e=>?_,rfl,rfl,rfl⟩
 .show([0,1,2]++l).getD v 0<m+3
  rw[at_ v r];exact lt _ (Dl _)
 .have e:([0,1,2]++l).getD v 0=([0,1,2]++l).getD w 0:=e
  rw[at_ v r,at_ w U]at e;exact(List.getElem_inj nd).mp e
end TT
namespace K09
open PySem L2 LV PyProof.Rows
theorem M6:B8 ["_law_cell", "_law_m", "_law_names_here", "_law_rest", "_law_k", "_law_left", "_law_ranks"] ["_law_cell", "_law_m"] (A9 aE1):={}
def rs (c:Int):Nat->Int
 | 0=>c / 2
 | j+1=>rs c j / 4096
def prs (c:Int)(m:Nat):AB:=(List.range m).map λ(k:Nat)=>[mx c (40+(k:Int)),(k:Int)]
def srt (c:Int)(m:Nat):AB:=(prs c m).mergeSort λa b => !HT.aA6 b a
def nm (c:Int)(m:Nat):AC:=[0,1,2]++(if c % 2=1 then TT.pk m (rs c m) ((List.range m).map (· + 3)) else(srt c m).map λt=>(t.getD 1 0).toNat+3)
theorem aJ3 (c:Int)(m:Nat):(srt c m).Perm (prs c m):=List.mergeSort_perm _ _
theorem dH3 (c:Int)(m:Nat):(srt c m).Pairwise P5:=by
 have:=List.pairwise_mergeSort (le:=λa b:AD => !HT.aA6 b a) (λa b d h1 e=>by
  have:=aP7 a b d (by unfold P5;simpa using h1) (by unfold P5;simpa using e)
  unfold P5 at this;simp[this]) (λa b=>by
  rcases bW7 a b with h | h <;> unfold P5 at h <;> simp[h]) (prs c m)
 refine this.imp λh=>?_
 unfold P5;simpa using h
theorem eS4 (c:Int)(m:Nat):TT.Nm (m+3) λv=>(nm c m).getD v 0:=by
 unfold nm;refine TT.eS7 ?_;split
 .exact TT.bY8 _ _ _ (by simp)
 .refine((aJ3 c m).map _).trans ?_
  have:(prs c m).map (λt=>(t.getD 1 0).toNat+3)=(List.range m).map (· + 3):=by
   unfold prs;rw[Ae2];rfl
  rw[this]
theorem eM2 (c:Int)(m:Nat):(nm c m).length=m+3:=by
 unfold nm;split
 .rw[Ab7,(TT.bY8 m (rs c m) _ (by simp)).length_eq];simp;lia
 .rw[Ab7,Aa3,(aJ3 c m).length_eq];simp[prs];lia
def dI0 (ds es:AF):Prop:=∃(c:Int) (m:Nat),m<=20/\ds=[.int c,.int (m:Int)]/\es=nI (nm c m)
theorem bV2:∀(l:List α) (n:Nat),(l.map f).eraseIdx n=(l.eraseIdx n).map f
 | [],n=>rfl
 | a::l,0=>rfl
 | a::l,n+1=>by simp[List.eraseIdx_cons_succ,bV2 l n]
def f1 (c:Int):PyData->Option PyData
 | .int k=>some (tI [mx c (40+k),k])
 | _=>none
def f2:PyData->Option PyData
 | .tuple [_,.int k]=>some (.int (3+k))
 | _=>none
theorem bA1:∀{l:List α},(∀x∈l,f x=g x)->l.filterMap f=l.filterMap g
 | [],_=>rfl
 | a::l,h=>by rw[An,An,h a (by simp),bA1 λx hx=>h x (by simp[hx])]
theorem eM5 (c:Int)(m:Nat):(aG2 0 m).filterMap (f1 c)=(prs c m).map tI:=by
 unfold aG2 prs;rw[Df,Ae2,<- List.filterMap_eq_map];refine bA1 λx _=>?_
 show f1 c (.int (0+(x:Int)))=_
 rw[Int.zero_add];rfl
theorem cX7 (h:t∈srt c m):∃k:Nat,t=[mx c (40+(k:Int)),(k:Int)]:=by
 have:=(aJ3 c m).mem_iff.mp h
 obtain⟨k,_,e⟩:=Aa8.mp this;exact⟨k,e.symm⟩
theorem eK1 (c:Int)(m:Nat):((srt c m).map tI).filterMap f2=nI ((srt c m).map λt=>(t.getD 1 0).toNat+3):=by
 unfold nI;rw[Df,Ae2,<- List.filterMap_eq_map];refine bA1 λt e=>?_
 obtain⟨k,rfl⟩:=cX7 e;show some (PyData.int (3+(k:Int)))=some (PyData.int ((((k:Int)).toNat+3:Nat):Int))
 congr 2
 lia
theorem nd1:(["_law_k", "_law_cell"]:AH).Nodup:=by decide +kernel
theorem nd2:(["_law_rank"]:AH).Nodup:=by decide +kernel
section
variable {P:Program}{w:World}{K:Frag}{mg:Str->Option Value}{base:Heap}{a:Ad}
theorem dF0 (T:Tx K mg a):FnOk P w K mg base CX0 2 a.aU8 a.aW7 ["_law_cell", "_law_m"] (spL K dI0):=by
 have Y := @bC5 P w K mg base a T
 refine T.aY3.F.ok M6 (cP0 λds d ⟨_,_,_,e,_⟩=>by rw[e];rfl) (λcdv A outer s H vs Q E hr h=>?_)
 obtain⟨ds,S,es,hS,r,⟨c,m,hm,rfl,rfl⟩,q⟩:=h;refine⟨_,(A3 (psS 2 M6 (D6 (A0 A4 (A0 A4 (A0 A4 A2)))))
   (A3 (L6 (B9 aC7 (B1 J0 (pv 0) A4) A4 (D8 _)) (A3 (psS 3 M6 (B1 K4 (pv 0) A4))
   (A3 (S4 Ao rfl (N1 rfl T.O6 (A0 (pv 1) A2)) (pgN 4 M6) (A7 (psS 3 M6 (B1 K4 (pv 3) A4))))
   (A3 (psS 5 M6 (K5 (bS2 rfl) (by rfl) T.v9 boot_list (A0 (eB1 rfl T.O6 (A0 A4 (A0 (B1 N6 (pv 1) A4) A2))) A2)))
   (A3 (S4 Ao rfl (N1 rfl T.O6 (A0 (pv 1) A2)) (pgN 4 M6) (A3 (L8 (S7 Ab1 Ag Af K7 (pv 2) (A0 (S7 Ab1 PySem.F.slot_list_pop PySem.F.type_list_pop dF8 (pv 5) (A0 (B1 J0 (pv 3) (C0 P0 (by rfl) T.O9 Am (A0 (pv 5) A2))) A2)) A2)))
   (A7 (psS 3 M6 (B1 K4 (pv 3) (B1 N6 (C0 P0 (by rfl) T.O9 Am (A0 (pv 5) A2)) A4))))))
   (A7 (B7 (pv 2))))))) E1)
   (A3 (psS 6 M6 (C0 (aS9 K) (by rfl) T.aJ7 boot_sorted (A0 (U5 (T:=["_law_k"]) (N':=["_law_k", "_law_cell"]) (is:=[0]) rfl (.of rfl rfl rfl (by exact⟨rfl,trivial⟩) rfl rfl rfl (by first | exact⟨⟨_,rfl,.inl rfl,.inl rfl⟩,trivial⟩ | exact⟨⟨_,rfl,.inr rfl,.inl rfl⟩,trivial⟩)) (N1 rfl T.O6 (A0 (pv 1) A2)) (T3 (by decide)) λ_ _ _ _=>⟨(R5 (i:=0) nd1 rfl (Or.inl rfl)),i3,(H9 (A0 (pcl Y hr T.i4 (A0 (pv 1) (A0 (B1 N6 A4 (pv 0)) A2))) (A0 (pv 0) A2)))⟩) A2)))
   (A7 (B7 (B1 (O5 K) (pv 2) (U5 (T:=["_law_rank"]) (N':=["_law_rank"]) (is:=[]) rfl (.of rfl rfl rfl trivial rfl rfl rfl trivial) (aA4 (pv 6)) (T3 (by decide)) λ_ _ _ _=>⟨(R5 (i:=0) nd2 rfl (Or.inl rfl)),i3,(B1 N6 A4 (B4 (ixK K) (pv 0) A4 (λ_ _=>rfl)))⟩))))))),aS3 hS r ?_ q⟩
 refine A8 (N2 (G3 (A1 A6 (A1 A6 (A1 A6 A5)))) ?_ (show 2<7 by decide))
 show W K _ [vI c,vI (m:Int),.own (nI [0,1,2]),.no,.no,.no,.no] _
 refine A8 (K9 (C1 (l7 (e_i (B0 rfl) A6 (by decide)) A6)) (λh=>?_) (λh=>E2 ?_))
 .have h:c % 2=1:=Aj h
  refine A8 (E5 (d:=.int (rs c 0)) (e_i (B0 rfl) A6 ⟨by decide,by decide⟩) ?_)
  refine A8 (Y5 (a8 (A1 (B0 rfl) A5) ?_ ?_) (λj ρ=>∃J,J.nb=true/\ρ=[vI c,vI (m:Int),.own (nI [0,1,2]),vI (rs c j),J,.no,.no]) ⟨.no,rfl,rfl⟩ ?_ ?_)
  .lia
  .lia
  .rintro j d _ N ⟨J,b4,rfl⟩;obtain⟨rfl,hj⟩:=Z8 N;refine⟨_,F8,?_⟩;exact E5 (d:=.int (rs c (j+1))) (e_i (B0 rfl) A6 ⟨by decide,by decide⟩) ⟨.val (.int (j:Int)),rfl,rfl⟩
  rintro _ ⟨J,b4,rfl⟩;rw[W2,Ac8];refine A8 (N2 (ds:=nI ((List.range m).map (· + 3))) ?_ ?_ (show 5<7 by decide))
  .have:=eF6 (K:=K) (ρ:=[vI c,vI (m:Int),.own (nI [0,1,2]),vI (rs c m),J,.no,.no]) (i:=3) (j:=(m:Int)+3) (A1 A6 (A1 (N4 v1 A6) A5)) (by lia)
   have e:aG2 3 ((m:Int)+3-3).toNat=nI ((List.range m).map (· + 3)):=by
    have e':((m:Int)+3-3).toNat=m:=by lia
    rw[e'];unfold aG2 nI;rw[Ae2];refine Bk λx _=>?_
    show PyData.int (3+(x:Int))=PyData.int ((x+3:Nat):Int)
    congr 1;lia
   rw[e]at this;exact this
  refine A8 (Y5 (a8 (A1 (B0 rfl) A5) ?_ ?_) (λj ρ=>∃J pre l r,J.nb=true/\TT.pk m (rs c m) ((List.range m).map (· + 3))=pre++TT.pk (m-j) r l/\l.length=m-j/\pre.length<=j/\ρ=[vI c,vI (m:Int),.own (nI ([0,1,2]++pre)),vI r,J,.own (nI l),.no]) ⟨J,[],(List.range m).map (· + 3),rs c m,b4,by simp,by simp,by simp,rfl⟩ ?_ ?_)
  .lia
  .lia
  .rintro j d _ N ⟨J,pre,l,U,b4,M,B,hpl,rfl⟩;obtain⟨rfl,hj⟩:=Z8 N;have hj:j<m:=by lia
   have hne:l≠[]:=λe=>by rw[e]at B;simp at B;lia
   have hpos:0<l.length:=Dd.mpr hne
   have X:=TT.cU0 (r:=U) hne
   have hnn:=Bq U (b:=(l.length:Int)) (by lia)
   generalize hn:(U % (l.length:Int)).toNat=n at X;refine⟨_,F8,?_⟩;show W K _ [vI c,vI (m:Int),.own (nI ([0,1,2]++pre)),vI U,vI (j:Int),.own (nI l),.no] _;refine A8 (bE1 (i:=2) (j:=5) (ds:=nI ([0,1,2]++pre)) (d:=.int (l[n]:Nat)) (dE2 n (ds:=nI l) rfl (e_i (B0 rfl) (M9 (A1 (P6 rfl) A5)) ?_) ?_ ?_ ?_) rfl rfl ?_ ?_)
   .rw[G5];lia
   .rw[G5,<- hn];lia
   .unfold nI;rw[Aa9,Aa2 X];rfl
   .lia
   .rw[G5];simp;unfold sizeLine;lia
   have el:(nI l).eraseIdx n=nI (l.eraseIdx n):=by unfold nI;rw[bV2]
   have el2:((nI (l.eraseIdx n)).length:Int)+1=(l.length:Int):=by rw[G5,List.length_eraseIdx_of_lt X];lia
   have ea:nI ([0,1,2]++pre)++[PyData.int (l[n]:Nat)]=nI ([0,1,2]++(pre++[l[n]])):=by simp[nI]
   show W K _ [vI c,vI (m:Int),.own (nI ([0,1,2]++pre)++[PyData.int (l[n]:Nat)]),vI U,vI (j:Int),.own ((nI l).eraseIdx n),.no] _
   rw[el,ea];refine E5 (d:=.int (U / (l.length:Int))) ?_ ⟨.val (.int (j:Int)),pre++[l[n]],l.eraseIdx n,U / (l.length:Int),rfl,?_,?_,?_,rfl⟩
   .rw[<- el2];exact e_i (B0 rfl) (N4 (M9 (A1 (P6 rfl) A5)) A6) ⟨by lia,by lia⟩
   .rw[M];obtain⟨k,hk⟩:∃k,m-j=k+1:=⟨m-j-1,by lia⟩
    have hk':m-(j+1)=k:=by lia
    rw[hk,hk'];show pre++(l.getD (U % (l.length:Int)).toNat 0::TT.pk k (U / (l.length:Int)) (l.eraseIdx (U % (l.length:Int)).toNat))=_;rw[hn,Ac0,Aa2 X]
    simp
   .rw[List.length_eraseIdx_of_lt X];lia
   .simp;lia
  rintro _ ⟨J,pre,l,U,b4,M,B,hpl,rfl⟩;rw[W2,Ac8,Nat.sub_self]at M;refine dH7 (ds:=nI ([0,1,2]++pre)) rfl ?_;show nI _=nI (nm c m);unfold nm;rw[Ac h,M];simp[TT.pk]
 have h:¬c % 2=1:=Ar h
 have hsl:(srt c m).length=m:=by rw[(aJ3 c m).length_eq];simp[prs]
 have c1:=U3 (K:=K) (m:=true) (ρ:=[vI c,vI (m:Int),.own (nI [0,1,2]),.no,.no,.no,.no]) (n:=1) (is:=[0]) (g:=M8 0) (tt:=cF6)
  (te:=cS5 (E7 (V3 (spV K cG4) [] E0 (E7 (C7 1) (E7 (tOp (rI0 λi j=>V.int (i+j)) (tC (.int 40)) (C7 0)) R6))) (E7 (C7 0) R6))) (f1 c) (a8 (A1 v1 A5) (by lia) (by lia)) (by rw[W2];unfold sizeLine;lia) (λd N=>by
   obtain⟨i,hi⟩:=List.mem_iff_getElem?.mp N;obtain⟨rfl,hi⟩:=Z8 hi;have hi:i<m:=by lia
   exact⟨_,F8,aU4,N3 (A1 (C3 (A1 (B0 rfl) (A1 (N4 A6 (B0 rfl)) A5)) ⟨c,40+(i:Int),by lia,rfl,rfl⟩) (A1 (B0 rfl) A5))⟩)
 rw[Ac8,eM5]at c1;refine A8 (N2 (ds:=(srt c m).map tI) (bO7 (ts:=prs c m) (A1 (EF.e' c1) A5) (λt ht=>?_) ?_ (aJ3 c m) (dH3 c m)) ?_ (show 6<7 by decide))
 .obtain⟨k,_,rfl⟩:=Aa8.mp ht;simp
 .simp[prs];lia
 show W K _ [vI c,vI (m:Int),.own (nI [0,1,2]),.no,.no,.no,.own ((srt c m).map tI)] _
 have c2:=U3 (K:=K) (m:=false) (ρ:=[vI c,vI (m:Int),.own (nI [0,1,2]),.no,.no,.no,.own ((srt c m).map tI)]) (n:=1) (is:=[]) (g:=M8 0) (tt:=cF6)
  (te:=tOp (rI0 λi j=>V.int (i+j)) (tC (.int 3)) (tOp (rIx K) (C7 0) (tC (.int 1)))) f2 (aN3 (P6 (i:=6) rfl)) (by rw[Aa3,hsl];unfold sizeLine;lia) (λd N=>by
   obtain⟨t,ht,rfl⟩:=Aa8.mp N;obtain⟨k,rfl⟩:=cX7 ht;exact⟨_,F8,aU4,N4 A6 (C9 (dS3 rfl) A6 rfl rfl)⟩)
 rw[eK1]at c2
 have:=bF3 (R:={nx:=λ_=>False,rl:=λe=>e=nI (nm c m)}) (aN7 (P6 (i:=2) rfl) (EF.e' c2) (L9 _) (L9 _) (by rw[G5,G5,Aa3,hsl];unfold sizeLine;simp;lia)) (by
  show _=nI (nm c m)
  unfold nm;rw[Ab h,<- o9])
 exact this
end
end K09
namespace TT
def pfg (N:Nat->Int):Nat->Nat×Nat
 | 0=>(0,0)
 | j+1=>((pfg N j).1+(N j % ((j:Int)+1-(pfg N j).1)).toNat,(pfg N j).2+(N j / 64 % ((((pfg N j).1+(N j % ((j:Int)+1-(pfg N j).1)).toNat:Nat):Int)+1-(pfg N j).2)).toNat)
def rF (N:Nat->Int)(j:Nat):Nat:=(pfg N (j+1)).1
def rG (N:Nat->Int)(j:Nat):Nat:=(pfg N (j+1)).2
theorem eV4 (N:Nat->Int):∀j,pv (rF N) j=(pfg N j).1
 | 0=>rfl
 | _+1=>rfl
theorem eT7 (N:Nat->Int):∀j,pv (rG N) j=(pfg N j).2
 | 0=>rfl
 | _+1=>rfl
theorem cJ9 (N:Nat->Int)(j:Nat):rF N j=(pfg N j).1+(N j % ((j:Int)+1-(pfg N j).1)).toNat:=rfl
theorem dN2 (N:Nat->Int)(j:Nat):rG N j=(pfg N j).2+(N j / 64 % ((rF N j:Int)+1-(pfg N j).2)).toNat:=rfl
theorem cC2 (N:Nat->Int):∀j,(pfg N j).1<=j/\(pfg N j).2<=(pfg N j).1/\(pfg N (j+1)).1<=j/\(pfg N (j+1)).2<=(pfg N (j+1)).1
 | j=>by
  have e:(pfg N j).1<=j/\(pfg N j).2<=(pfg N j).1:=by
   cases j with
   | zero=>exact⟨Aa7 _,Aa7 _⟩
   | succ i=>
    have:=cC2 N i
    exact⟨by lia,this.2.2.2⟩
  have h1:rF N j<=j:=by
   rw[cJ9];have h:=Cd (N j) (b:=(j:Int)+1-(pfg N j).1) (by lia)
   have w:=Bq (N j) (b:=(j:Int)+1-(pfg N j).1) (by lia)
   lia
  have s:(pfg N j).1<=rF N j:=by rw[cJ9];lia
  have r:rG N j<=rF N j:=by
   rw[dN2];have h:=Cd (N j / 64) (b:=(rF N j:Int)+1-(pfg N j).2) (by lia)
   have w:=Bq (N j / 64) (b:=(rF N j:Int)+1-(pfg N j).2) (by lia)
   lia
  exact⟨e.1,e.2,h1,r⟩
theorem aF6 (N:Nat->Int)(m:Nat):Rws (rF N) (rG N) m where
 f1:=λi _=>by rw[eV4,cJ9];lia
 f2:=λi _=>(cC2 N i).2.2.1
 g1:=λi _=>by rw[eT7,dN2];lia
 g2:=λi _=>(cC2 N i).2.2.2
end TT
namespace K09
open PySem L2 LV PyProof.Rows
theorem sc__law_built:B8 ["_law_cell", "_law_cells", "_law_m", "_law_first", "_law_second", "_law_rest", "_law_i", "_law_number", "_law_low", "_law_turns", "_law_outs", "_law_names_here", "_law_called", "_law_triples", "_law_v"] ["_law_cell", "_law_cells", "_law_m"] (A9 aF4):={}
def rr (c:Int)(j:Nat):Int:=if c % 2=1 then rs c j else c / 2
def nu (c:Int)(cells:AD)(j:Nat):Int:=if c % 2=1 then rs c j % 4096 else mx (cl cells j) j
def nf (c:Int)(m:Nat)(v:Nat):Nat:=(nm c m).getD v 0
def dP5 (ds:AF)(d:PyData):Prop:=∃(c:Int) (cells:AD) (m:Nat) (dr tr:AA),m<=7/\TT.Bt (TT.rF (nu c cells)) (TT.rG (nu c cells)) m (nf c m) dr tr/\ds=[.int c,lI cells,.int (m:Int)]/\d=.tuple [tD dr,tD tr]
def rb (c:Int)(cells:AD)(m:Nat)(f g:AD)(r:Int)(x6 x7 x8:Sl):List Sl:=[vI c,.val (lI cells),vI (m:Int),.own (f.map PyData.int),.own (g.map PyData.int),vI r,x6,x7,x8,.no,.no,.no,.no,.no,.no]
theorem eE2 (e:x6.nb=true)(w:x7.nb=true)(j:x8.nb=true):i7 (rb c cells m f g r x6 x7 x8)=true:=by
 unfold rb;simp only[aH2,e,w,j,Bool.true_and];rfl
theorem bK0 (F:Nat->Nat)(j:Nat):fl F (j+1)=fl F j++[(F j:Int)]:=by simp[fl,Bh]
def rc (c:Int)(cells:AD)(m:Nat)(x3 x4 r:PyData)(x6 x7 x8:Sl)(tD oD:PyData)(nmD L T:AF)(x14:Sl):List Sl:=[vI c,.val (lI cells),vI (m:Int),.val x3,.val x4,.val r,x6,x7,x8,.val tD,.val oD,.own nmD,.own L,.own T,x14]
theorem eE6 {c:Int}{cells:AD}{m:Nat}{x3 x4 r:PyData}{x6 x7 x8:Sl}{tD oD:PyData}{nmD L T:AF}{x14:Sl}(w:x6.nb=true)(j:x7.nb=true)(s:x8.nb=true)(e:x14.nb=true):i7 (rc c cells m x3 x4 r x6 x7 x8 tD oD nmD L T x14)=true:=by
 unfold rc;simp only[aH2,w,j,s,e,Bool.true_and];rfl
def f3 (f:Nat->Nat):PyData->Option PyData
 | .int k=>some (.int (f k.toNat:Nat))
 | _=>none
theorem dI7 (f:Nat->Nat)(l:AC):(nI l).filterMap (f3 f)=nI (l.map f):=by
 unfold nI;rw[Df,Ae2,<- List.filterMap_eq_map];exact bA1 λx _=>rfl
theorem bM2 (a:α):∀n:Nat,(List.replicate n [a]).flatten=List.replicate n a
 | 0=>rfl
 | n+1=>by rw[Bl,Bu,bM2 a n];rfl
theorem EF.to {K:Frag}{t:TE}{ρ:List Sl}{ds es:AF}(h:LV.EF K t ρ ds)(e:ds=es):LV.EF K t ρ es:=e▸h
theorem eJ2 {F G:Nat->Nat}{m v:Nat}(R:TT.Rws F G m)(j:v<m+3):(TT.gst F G m).row v≠[]:=by
 have e:=TT.k8 R m (Aa7 _)
 obtain⟨p,hp⟩:=e.inv.pe;by_cases w:v=0
 .subst w;rw[TT.aU7];simp
 .by_cases h1:v=1
  .subst h1;rw[TT.bM6];simp
  .by_cases r:v=2
   .subst r;rw[TT.aV9,hp];simp
   .rw[TT.W9 (by lia) (by rw[e.k];exact j)];simp
theorem cW7 {c:Int}{m p:Nat}(h:p<m+3):atI (nI (nm c m)) (p:Int)=some (.int (nf c m p:Nat)):=by
 refine S1 p rfl ?_;unfold nI nf;rw[Aa9,Ac0,Aa2 (by rw[eM2];exact h)];rfl
theorem cJ7 {L:AF}{f:Nat->Nat}{n j:Nat}{g:Nat->PyData}{x:PyData}(w:f j<L.length)(inj:∀v,v<j->f v≠f j)(h:∀v,v<j->L[f v]? = some (g v))(r:x=g j):∀v,v<j+1->(L.set (f j) x)[f v]? = some (g v):=λv s=>by
 by_cases e:v=j
 .subst e;rw[Ai w,r]
 .rw[Ad0 (λz=>inj v (by lia) z.symm)];exact h v (by lia)
theorem bP9 (e:imm x=true):∀{L:AF} (n:Nat),N8 L=true->N8 (L.set n x)=true
 | [],_,h=>h
 | a::L,0,h=>by simp[N8]at h ⊢;exact⟨e,h.2⟩
 | a::L,n+1,h=>by simp[N8]at h ⊢;exact⟨h.1,bP9 e n h.2⟩
theorem aT0 (l:AC):imm (tN l)=true:=by unfold tN;simp[imm,L9]
theorem nd3:(["_law_place", "_law_names_here"]:AH).Nodup:=by decide +kernel
section
variable {P:Program}{w:World}{K:Frag}{mg:Str->Option Value}{base:Heap}{a:Ad}
theorem dG9 (T:Tx K mg a):FnOk P w K mg base CX0 3 a.aZ0 a.aY7 ["_law_cell", "_law_cells", "_law_m"] (spV K dP5):=by
 have R := @bC5 P w K mg base a T
 have U := @cZ2 P w K mg base a T
 have M := @dH6 P w K mg base a T
 have G__law_names := @dF0 P w K mg base a T
 have J := @aX0 P w K mg base a T
 refine T.aW3.F.ok sc__law_built (Y7 λds d ⟨_,_,_,_,_,_,_,e,_⟩=>by rw[e];rfl) (λcdv A outer s H vs Q E hr h=>?_)
 obtain⟨ds,S,d,hS,r,⟨c,Y,m,dr,tr,hm,B,rfl,rfl⟩,q⟩:=h;refine⟨_,(A3 (psS 3 sc__law_built (D6 A2))
   (A3 (psS 4 sc__law_built (D6 A2))
   (A3 (psS 5 sc__law_built (B1 K4 (pv 0) A4))
   (A3 (S4 Ao rfl (N1 rfl T.O6 (A0 (pv 2) A2)) (pgN 6 sc__law_built) (A3 (psS 7 sc__law_built (pcl R hr T.i4 (A0 (pcl U hr T.U2 (A0 (pv 1) (A0 (pv 6) A2))) (A0 (pv 6) A2))))
   (A3 (L6 (B9 aC7 (B1 J0 (pv 0) A4) A4 (D8 _)) (A3 (psS 7 sc__law_built (B1 J0 (pv 5) A4))
   (A7 (psS 5 sc__law_built (B1 K4 (pv 5) A4)))) E1)
   (A3 (psS 8 sc__law_built (cJ0 (B9 cG7 (pv 6) A4 (D8 _)) (B4 F4 (pv 3) (bI6 aI8 A4) (λ_ _=>rfl)) A4))
   (A3 (L8 (S7 Ab1 Ag Af K7 (pv 3) (A0 (B1 N6 (pv 8) (B1 J0 (pv 7) (B1 S2 (B1 N6 (pv 6) A4) (pv 8)))) A2)))
   (A3 (psS 8 sc__law_built (cJ0 (B9 cG7 (pv 6) A4 (D8 _)) (B4 F4 (pv 4) (bI6 aI8 A4) (λ_ _=>rfl)) A4))
   (A7 (L8 (S7 Ab1 Ag Af K7 (pv 4) (A0 (B1 N6 (pv 8) (B1 J0 (B1 K4 (pv 7) A4) (B1 S2 (B1 N6 (B4 F4 (pv 3) (bI6 aI8 A4) (λ_ _=>rfl)) A4) (pv 8)))) A2))))))))))
   (A3 (aB2 (pcl M hr T.aX7 (A0 (pv 3) (A0 (pv 4) A2))) (cD4 (n:=2) rfl (a9 (pgN 9 sc__law_built) (a9 (pgN 10 sc__law_built) bJ8))))
   (A3 (cE7 (i:=11) sc__law_built.nd rfl (Or.inr rfl) (pcl G__law_names hr T.aY3 (A0 (pv 0) (A0 (pv 2) A2))))
   (A3 (psS 12 sc__law_built (B1 dS8 (D6 (A0 (H9 A2) A2)) (B1 N6 (pv 2) A4)))
   (A3 (psS 13 sc__law_built (B1 dS8 (D6 (A0 (H9 A2) A2)) (pv 2)))
   (A3 (S4 Ao rfl (N1 rfl T.O6 (A0 (B1 N6 (pv 2) A4) A2)) (pgN 14 sc__law_built) (A7 (aB2 (pcl J hr T.R9 (A0 (U5 (T:=["_law_place"]) (N':=["_law_place", "_law_names_here"]) (is:=[11]) rfl (.of rfl rfl rfl (by exact⟨rfl,trivial⟩) rfl rfl rfl (by first | exact⟨⟨_,rfl,.inl rfl,.inl rfl⟩,trivial⟩ | exact⟨⟨_,rfl,.inr rfl,.inl rfl⟩,trivial⟩)) (aA4 (B4 F4 (pv 9) (pv 14) (λ_ _=>rfl))) (T3 (by decide)) λ_ _ _ _=>⟨(R5 (i:=0) nd3 rfl (Or.inl rfl)),i3,(B4 (ixK K) (pv 1) (pv 0) (λ_ _=>rfl))⟩) A2)) (aK5 (pv 12) (B4 F4 (pv 11) (pv 14) (λ_ _=>rfl)) m5))))
   (A3 (S4 Ao rfl (N1 rfl T.O6 (A0 (pv 2) A2)) (pgN 14 sc__law_built) (A7 (aB2 (K5 V9 (by rfl) T.S5 boot_tuple (A0 (U5 (T:=["_law_place"]) (N':=["_law_place", "_law_names_here"]) (is:=[11]) rfl (.of rfl rfl rfl (by exact⟨rfl,trivial⟩) rfl rfl rfl (by first | exact⟨⟨_,rfl,.inl rfl,.inl rfl⟩,trivial⟩ | exact⟨⟨_,rfl,.inr rfl,.inl rfl⟩,trivial⟩)) (aA4 (B4 F4 (pv 10) (pv 14) (λ_ _=>rfl))) (T3 (by decide)) λ_ _ _ _=>⟨(R5 (i:=0) nd3 rfl (Or.inl rfl)),i3,(B4 (ixK K) (pv 1) (pv 0) (λ_ _=>rfl))⟩) A2)) (aK5 (pv 13) (B1 S2 (B4 F4 (pv 11) (B1 N6 A4 (pv 14)) (λ_ _=>rfl)) A4) m5))))
   (A7 (B7 (H9 (A0 (K5 V9 (by rfl) T.S5 boot_tuple (A0 (pv 12) A2)) (A0 (K5 V9 (by rfl) T.S5 boot_tuple (A0 (pv 13) A2)) A2))))))))))))))),M0 hS r ?_ q⟩
 generalize hN:nu c Y=N at B;refine A8 (N2 (G3 A5) ?_ (show 3<15 by decide))
 refine A8 (N2 (G3 A5) ?_ (show 4<15 by decide))
 refine A8 (E5 (d:=.int (c / 2)) (e_i (B0 rfl) A6 ⟨by decide,by decide⟩) ?_)
 have r0:rr c 0=c / 2:=by unfold rr rs;split <;> rfl
 rw[<- r0];refine A8 (Y5 (a8 (A1 (B0 rfl) A5) ?_ ?_) (λj ρ=>∃x6 x7 x8,(x6.nb=true/\x7.nb=true/\x8.nb=true)/\ρ=rb c Y m (fl (TT.rF N) j) (fl (TT.rG N) j) (rr c j) x6 x7 x8) ⟨.no,.no,.no,⟨rfl,rfl,rfl⟩,rfl⟩ ?_ ?_)
 .lia
 .lia
 .rintro j d _ hd ⟨x6,x7,x8,⟨b6,b7,b8⟩,rfl⟩;obtain⟨rfl,hj⟩:=Z8 hd;have hj:j<m:=by lia
  have PF:=TT.cC2 N j
  have nuj:N j=nu c Y j:=by rw[hN]
  have nn:0<=N j:=by
   rw[nuj];unfold nu;split
   .exact Bq _ (by decide)
   .exact(eX1 _ _).1
  refine⟨_,F8,?_⟩;refine A8 (E5 (d:=.int (mx (cl Y j) j)) (C3 (A1 (C3 (A1 (B0 rfl) (A1 (B0 rfl) A5)) ⟨Y,j,by lia,rfl,rfl⟩) (A1 (B0 rfl) A5)) ⟨_,j,by lia,rfl,rfl⟩) ?_)
  show W K _ (rb c Y m (fl (TT.rF N) j) (fl (TT.rG N) j) (rr c j) (.val (.int (j:Int))) (.val (.int (mx (cl Y j) j))) x8) _
  refine A8 (eB5 (rb c Y m (fl (TT.rF N) j) (fl (TT.rG N) j) (rr c (j+1)) (.val (.int (j:Int))) (.val (.int (N j))) x8) (C1 (l7 (e_i (B0 rfl) A6 (by decide)) A6)) (λh=>A8 (E5 (d:=.int (rr c j % 4096)) (e_i (B0 rfl) A6 (by decide)) (E5 (d:=.int (rr c j / 4096)) (e_i (B0 rfl) A6 ⟨by decide,by decide⟩) ?_))) (λh=>E2 ?_) ?_)
  .have h:c % 2=1:=Aj h
   have e1:rr c (j+1)=rr c j / 4096:=by unfold rr;rw[Ac h,Ac h];rfl
   have e2:N j=rr c j % 4096:=by rw[nuj];unfold nu rr;rw[Ac h,Ac h]
   rw[e1,e2];rfl
  .have h:¬c % 2=1:=Ar h
   have e1:rr c (j+1)=rr c j:=by unfold rr;rw[Ab h,Ab h]
   have e2:N j=mx (cl Y j) j:=by rw[nuj];unfold nu;rw[Ab h]
   rw[e1,e2]
  have low:∀(X:Nat->Nat) (p:Nat),p=TT.pv X j->((j:Int)>0->atI ((fl X j).map PyData.int) (-1)=some (.int (p:Int))):=λX p hp h=>by
   obtain⟨i,rfl⟩:∃i,j=i+1:=⟨j-1,by lia⟩
   rw[bK0,Ad2,hp];exact aZ3
  refine A8 (E5 (d:=.int ((TT.pfg N j).1:Nat)) (eT8 (C1 (z4 (B0 rfl) A6)) (λh=>LV.E.imm (C9 (P6 rfl) (bH4 A6) rfl (low (TT.rF N) _ (TT.eV4 N j).symm (Aj h)))) (λh=>?_)) ?_)
  .have h:¬(j:Int)>0:=Ar h
   have:j=0:=by lia
   subst this;exact A6
  show W K _ (rb c Y m (fl (TT.rF N) j) (fl (TT.rG N) j) (rr c (j+1)) (.val (.int (j:Int))) (.val (.int (N j))) (.val (.int ((TT.pfg N j).1:Nat)))) _
  have eF:((TT.pfg N j).1:Int)+N j % ((j:Int)+1-((TT.pfg N j).1:Int))=(TT.rF N j:Int):=by
   rw[TT.cJ9]
   have:=Bq (N j) (b:=(j:Int)+1-(TT.pfg N j).1) (by lia)
   lia
  refine A8 (V2 rfl (N4 (B0 rfl) (e_i (B0 rfl) (N4 (N4 (B0 rfl) A6) (B0 rfl)) (by lia))) (by rw[Aa3];simp[fl];unfold sizeLine;lia) ?_ (eE2 rfl rfl rfl))
  rw[eF];have eF2:(fl (TT.rF N) j).map PyData.int++[PyData.int (TT.rF N j:Int)]=(fl (TT.rF N) (j+1)).map PyData.int:=by rw[bK0];simp
  rw[eF2];show W K _ (rb c Y m (fl (TT.rF N) (j+1)) (fl (TT.rG N) j) (rr c (j+1)) (.val (.int (j:Int))) (.val (.int (N j))) (.val (.int ((TT.pfg N j).1:Nat)))) _;refine A8 (E5 (d:=.int ((TT.pfg N j).2:Nat)) (eT8 (C1 (z4 (B0 rfl) A6)) (λh=>LV.E.imm (C9 (P6 rfl) (bH4 A6) rfl (low (TT.rG N) _ (TT.eT7 N j).symm (Aj h)))) (λh=>?_)) ?_)
  .have h:¬(j:Int)>0:=Ar h
   have:j=0:=by lia
   subst this;exact A6
  show W K _ (rb c Y m (fl (TT.rF N) (j+1)) (fl (TT.rG N) j) (rr c (j+1)) (.val (.int (j:Int))) (.val (.int (N j))) (.val (.int ((TT.pfg N j).2:Nat)))) _
  have rFj:TT.rF N j=(TT.pfg N (j+1)).1:=rfl
  have rFle:(TT.pfg N j).1<=TT.rF N j:=by rw[TT.cJ9];lia
  have eG:((TT.pfg N j).2:Int)+N j / 64 % ((TT.rF N j:Int)+1-((TT.pfg N j).2:Int))=(TT.rG N j:Int):=by
   rw[TT.dN2]
   have:=Bq (N j / 64) (b:=(TT.rF N j:Int)+1-(TT.pfg N j).2) (by lia)
   lia
  have hlF:atI ((fl (TT.rF N) (j+1)).map PyData.int) (-1)=some (.int (TT.rF N j:Int)):=by rw[bK0,Ad2];exact aZ3
  refine V2 rfl (N4 (B0 rfl) (e_i (e_i (B0 rfl) A6 ⟨by decide,by decide⟩) (N4 (N4 (C9 (P6 rfl) (bH4 A6) rfl hlF) A6) (B0 rfl)) (by lia))) (by rw[Aa3];simp[fl];unfold sizeLine;lia) ?_ (eE2 rfl rfl rfl)
  rw[eG];have eG2:(fl (TT.rG N) j).map PyData.int++[PyData.int (TT.rG N j:Int)]=(fl (TT.rG N) (j+1)).map PyData.int:=by rw[bK0];simp
  rw[eG2];exact⟨.val (.int (j:Int)),vI (N j),vI ((TT.pfg N j).2:Nat),⟨rfl,rfl,rfl⟩,rfl⟩
 rintro _ ⟨x6,x7,x8,⟨b6,b7,b8⟩,rfl⟩;rw[W2,Ac8];refine bG8 (i:=3) rfl (bG8 (i:=4) rfl ?_);refine A8 (dS6 (m:=true) (C3 (A1 (B0 rfl) (A1 (B0 rfl) A5)) ⟨TT.rF N,TT.rG N,m,TT.aF6 N m,by lia,rfl,rfl⟩) (cW3 (t4 F8 (t4 F8 bY3))) ?_)
 refine A8 (N2 (s9 (A1 (B0 rfl) (A1 (B0 rfl) A5)) ⟨c,m,by lia,rfl,rfl⟩) ?_ (show 11<15 by decide))
 have ND:=B.N
 have LT:=(TT.k8 (TT.aF6 N m) m (Aa7 _)).inv.lt
 have LR:=TT.bK7 (TT.k8 (TT.aF6 N m) m (Aa7 _)).inv
 rw[(TT.k8 (TT.aF6 N m) m (Aa7 _)).k]at LT LR;refine A8 (N2 (ds:=List.replicate (m+3) (.tuple [])) ?_ ?_ (show 12<15 by decide))
 .refine EF.to (dT1 (k:=(m:Int)+3) (ds:=[.tuple []]) (G3 (A1 (N3 A5) A5)) (N4 (B0 rfl) A6) rfl (by lia) (by lia) ?_) ?_
  .show 1*((m:Int)+3).toNat<=_;unfold sizeLine;lia
  .have e:((m:Int)+3).toNat=m+3:=by lia
   rw[bM2,e]
 refine A8 (N2 (ds:=List.replicate m (.tuple [])) ?_ ?_ (show 13<15 by decide))
 .refine EF.to (dT1 (k:=(m:Int)) (ds:=[.tuple []]) (G3 (A1 (N3 A5) A5)) (B0 rfl) rfl (by lia) (by lia) ?_) ?_
  .show 1*(m:Int).toNat<=_;unfold sizeLine;lia
  .rw[bM2,Ac8]
 generalize htD:(PyData.list ((List.range (m+3)).map λv=>lN ((TT.gst (TT.rF N) (TT.rG N) m).row v)))=tD
 generalize hoD:(PyData.list ((List.range m).map λv=>lN [(TT.gst (TT.rF N) (TT.rG N) m).o0 (v+3),(TT.gst (TT.rF N) (TT.rG N) m).o1 (v+3),(TT.gst (TT.rF N) (TT.rG N) m).o2 (v+3)]))=oD
 show W K _ (rc c Y m (lI (fl (TT.rF N) m)) (lI (fl (TT.rG N) m)) (.int (rr c m)) x6 x7 x8 tD oD (nI (nm c m)) (List.replicate (m+3) (.tuple [])) (List.replicate m (.tuple [])) .no) _
 have sqt:sq tD=some ((List.range (m+3)).map λv=>lN ((TT.gst (TT.rF N) (TT.rG N) m).row v)):=by rw[<- htD];rfl
 have sqo:sq oD=some ((List.range m).map λv=>lN [(TT.gst (TT.rF N) (TT.rG N) m).o0 (v+3),(TT.gst (TT.rF N) (TT.rG N) m).o1 (v+3),(TT.gst (TT.rF N) (TT.rG N) m).o2 (v+3)]):=by rw[<- hoD];rfl
 have imr:∀n:Nat,N8 (List.replicate n (PyData.tuple []))=true:=λn=>by
  induction n with
  | zero=>rfl
  | succ n ih=>rw[Bl];simp[N8,ih];rfl
 refine A8 (Y5 (a8 (A1 (N4 (B0 rfl) A6) A5) ?_ ?_) (λj ρ=>∃x14 L,x14.nb=true/\L.length=m+3/\N8 L=true/\(∀v,v<j->L[nf c m v]? = some (tN (TT.B5 (((TT.gst (TT.rF N) (TT.rG N) m).row v).map (nf c m)))))/\ρ=rc c Y m (lI (fl (TT.rF N) m)) (lI (fl (TT.rG N) m)) (.int (rr c m)) x6 x7 x8 tD oD (nI (nm c m)) L (List.replicate m (.tuple [])) x14) ⟨.no,_,rfl,by simp,imr _,λv hv=>by lia,rfl⟩ ?_ ?_)
 .lia
 .lia
 .rintro j d _ hd ⟨x14,L,b14,hL,hiL,hv,rfl⟩;obtain⟨rfl,hj⟩:=Z8 hd;have hj:j<m+3:=by lia
  refine⟨_,F8,?_⟩;show W K _ (rc c Y m (lI (fl (TT.rF N) m)) (lI (fl (TT.rG N) m)) (.int (rr c m)) x6 x7 x8 tD oD (nI (nm c m)) L (List.replicate m (.tuple [])) (.val (.int (j:Int)))) _;have cm:=U3 (K:=K) (m:=true) (ρ:=rc c Y m (lI (fl (TT.rF N) m)) (lI (fl (TT.rG N) m)) (.int (rr c m)) x6 x7 x8 tD oD (nI (nm c m)) L (List.replicate m (.tuple [])) (.val (.int (j:Int)))) (n:=1) (is:=[11]) (g:=M8 0) (tt:=cF6) (te:=tOp (rIx K) (C7 1) (C7 0)) (f3 (nf c m)) (aN3 (ds:=nI ((TT.gst (TT.rF N) (TT.rG N) m).row j)) (C9 (B0 (i:=9) rfl) (B0 (i:=14) rfl) sqt (aZ9 hj))) (by rw[G5];have:=LR j;unfold sizeLine;lia) (λd hd=>by
   obtain⟨p,hp,rfl⟩:=Aa8.mp hd;exact⟨_,F8,aU4,LV.E.imm (d:=.int (nf c m p:Nat)) (C9 (dS3 rfl) (B0 rfl) rfl (cW7 (LT j p hp)))⟩)
  rw[dI7]at cm;refine bE4 (nf c m j) (C3 (A1 (EF.e' cm) A5) ⟨_,?_,?_,rfl,rfl⟩) rfl (C9 (P6 rfl) (B0 rfl) rfl (cW7 hj)) rfl ?_ ⟨.val (.int (j:Int)),L.set (nf c m j) (tN (TT.B5 (((TT.gst (TT.rF N) (TT.rG N) m).row j).map (nf c m)))),rfl,by rw[Dj];exact hL,bP9 (aT0 _) _ hiL,cJ7 (n:=0) (by rw[hL];exact ND.lt j hj) (λv hv e=>by have:=ND.inj v j (by lia) hj e;lia) hv rfl,rfl⟩ (eE6 b6 b7 b8 rfl)
  .intro e;exact eJ2 (TT.aF6 N m) hj (List.map_eq_nil_iff.mp e)
  .rw[Aa3];have:=LR j;lia
  .rw[hL];exact ND.lt j hj
 rintro _ ⟨x14,L,b14,hL,hiL,hv,rfl⟩;have e3:(aG2 0 ((m:Int)+3).toNat).length=m+3:=by rw[W2];lia
 rw[e3]at hv;refine A8 (Y5 (a8 (A1 (B0 rfl) A5) ?_ ?_) (λj ρ=>∃x14 T,x14.nb=true/\T.length=m/\N8 T=true/\(∀v,v<j->T[nf c m (v+3)-3]? = some (tN [nf c m ((TT.gst (TT.rF N) (TT.rG N) m).o0 (v+3)),nf c m ((TT.gst (TT.rF N) (TT.rG N) m).o1 (v+3)),nf c m ((TT.gst (TT.rF N) (TT.rG N) m).o2 (v+3))]))/\ρ=rc c Y m (lI (fl (TT.rF N) m)) (lI (fl (TT.rG N) m)) (.int (rr c m)) x6 x7 x8 tD oD (nI (nm c m)) L T x14) ⟨x14,_,b14,by simp,imr _,λv hv=>by lia,rfl⟩ ?_ ?_)
 .lia
 .lia
 .rintro j d _ hd ⟨y14,T',c14,hT,hiT,hvT,rfl⟩;obtain⟨rfl,hj⟩:=Z8 hd;have hj:j<m:=by lia
  refine⟨_,F8,?_⟩;have rI:(TT.gst (TT.rF N) (TT.rG N) m).row (j+3)=_:=TT.W9 (by lia) (by rw[(TT.k8 (TT.aF6 N m) m (Aa7 _)).k];lia)
  have l0:(TT.gst (TT.rF N) (TT.rG N) m).o0 (j+3)<m+3:=LT (j+3) _ (by rw[rI];simp)
  have l1:(TT.gst (TT.rF N) (TT.rG N) m).o1 (j+3)<m+3:=LT (j+3) _ (by rw[rI];simp)
  have l2:(TT.gst (TT.rF N) (TT.rG N) m).o2 (j+3)<m+3:=LT (j+3) _ (by rw[rI];simp)
  have ge3:3<=nf c m (j+3):=by
   have:=ND.lo (by lia) (q:=j+3) (by lia)
   lia
  have lt3:nf c m (j+3)<m+3:=ND.lt (j+3) (by lia)
  have hat:atI (nI (nm c m)) (3+(j:Int))=some (.int (nf c m (j+3):Nat)):=by
   rw[show(3:Int)+(j:Int)=((j+3:Nat):Int) by lia];exact cW7 (by lia)
  show W K _ (rc c Y m (lI (fl (TT.rF N) m)) (lI (fl (TT.rG N) m)) (.int (rr c m)) x6 x7 x8 tD oD (nI (nm c m)) L T' (.val (.int (j:Int)))) _
  have cm:=U3 (K:=K) (m:=true) (ρ:=rc c Y m (lI (fl (TT.rF N) m)) (lI (fl (TT.rG N) m)) (.int (rr c m)) x6 x7 x8 tD oD (nI (nm c m)) L T' (.val (.int (j:Int)))) (n:=1) (is:=[11]) (g:=M8 0) (tt:=cF6) (te:=tOp (rIx K) (C7 1) (C7 0)) (f3 (nf c m)) (aN3 (ds:=nI [(TT.gst (TT.rF N) (TT.rG N) m).o0 (j+3),(TT.gst (TT.rF N) (TT.rG N) m).o1 (j+3),(TT.gst (TT.rF N) (TT.rG N) m).o2 (j+3)]) (C9 (B0 (i:=10) rfl) (B0 (i:=14) rfl) sqo (aZ9 hj))) (by rw[G5];show 3<_;unfold sizeLine;lia) (λd hd=>by
   obtain⟨p,hp,rfl⟩:=Aa8.mp hd;have hp:p<m+3:=by
    rcases Aa1.mp hp with rfl | hp
    .exact l0
    .rcases Aa1.mp hp with rfl | hp
     .exact l1
     .rw[Ad8.mp hp];exact l2
   exact⟨_,F8,aU4,LV.E.imm (d:=.int (nf c m p:Nat)) (C9 (dS3 rfl) (B0 rfl) rfl (cW7 hp))⟩)
  rw[dI7]at cm;refine bE4 (nf c m (j+3)-3) (Y8 (A1 (EF.e' cm) A5) (L9 _)) rfl (N4 (C9 (P6 rfl) (N4 A6 (B0 rfl)) rfl hat) A6) (by lia) ?_ ⟨.val (.int (j:Int)),T'.set (nf c m (j+3)-3) (tN [nf c m ((TT.gst (TT.rF N) (TT.rG N) m).o0 (j+3)),nf c m ((TT.gst (TT.rF N) (TT.rG N) m).o1 (j+3)),nf c m ((TT.gst (TT.rF N) (TT.rG N) m).o2 (j+3))]),rfl,by rw[Dj];exact hT,bP9 (aT0 _) _ hiT,cJ7 (n:=0) (f:=λv=>nf c m (v+3)-3) (g:=λv=>tN [nf c m ((TT.gst (TT.rF N) (TT.rG N) m).o0 (v+3)),nf c m ((TT.gst (TT.rF N) (TT.rG N) m).o1 (v+3)),nf c m ((TT.gst (TT.rF N) (TT.rG N) m).o2 (v+3))]) (by rw[hT];show nf c m (j+3)-3<m;lia) (λv hv e=>by
   have e:nf c m (v+3)-3=nf c m (j+3)-3:=e
   have g3:=ND.lo (by lia) (q:=v+3) (by lia)
   have:=ND.inj (v+3) (j+3) (by lia) (by lia) (by lia)
   lia) hvT rfl,rfl⟩ (eE6 b6 b7 b8 rfl)
  rw[hT];lia
 rintro _ ⟨y14,T',c14,hT,hiT,hvT,rfl⟩;rw[W2,Ac8]at hvT;refine E9 (N3 (A1 (Y8 (A1 (P6 rfl) A5) hiL) (A1 (Y8 (A1 (P6 rfl) A5) hiT) A5))) ?_;have eL:L=dr.map tN:=by
  refine List.ext_getElem? λz=>?_
  by_cases hz:z<m+3
  .obtain⟨v,hv1,rfl⟩:=ND.surj z hz;rw[hv v hv1,Aa9,B.dr v hv1];rfl
  .rw[Ad6 (by lia),Ad6 (by rw[Aa3,B.dl];lia)]
 have eT:T'=tr.map tN:=by
  refine List.ext_getElem? λz=>?_
  by_cases hz:z<m
  .obtain⟨v,hv1,hv2⟩:=ND.surj (z+3) (by lia)
   have h3:3<=v:=by
    have:=ND.lo (by lia) hv1
    lia
   obtain⟨u,rfl⟩:∃u,v=u+3:=⟨v-3,by lia⟩
   have hzz:z=nf c m (u+3)-3:=by lia
   rw[hzz,hvT u (by lia),Aa9,B.tr (u+3) h3 hv1];rfl
  .rw[Ad6 (by lia),Ad6 (by rw[Aa3,B.tl];lia)]
 rw[eL,eT]
end
theorem eO7 {F G:Nat->Nat}{m:Nat}{f:Nat->Nat}(R:TT.Rws F G m)(N:TT.Nm (m+3) f):∃dr tr,TT.Bt F G m f dr tr:=by
 have r:∀q,∃v,q<m+3->v<m+3/\f v=q:=λq=>by
  by_cases h:q<m+3
  .obtain⟨v,h1,Y⟩:=N.surj q h;exact⟨v,λ_=>⟨h1,Y⟩⟩
  .exact⟨0,λz=>absurd z h⟩
 have ⟨g,s⟩:∃g:Nat->Nat,∀q,q<m+3->g q<m+3/\f (g q)=q:=⟨λq=>Classical.choose (r q),λq h=>Classical.choose_spec (r q) h⟩
 have j:∀v,v<m+3->g (f v)=v:=λv w=>N.inj _ _ (s _ (N.lt v w)).1 w (s _ (N.lt v w)).2
 refine⟨(List.range (m+3)).map λq=>TT.B5 (((TT.gst F G m).row (g q)).map f),(List.range m).map λq=>[f ((TT.gst F G m).o0 (g (q+3))),f ((TT.gst F G m).o1 (g (q+3))),f ((TT.gst F G m).o2 (g (q+3)))],R,N,by simp,λv w=>?_,by simp,λv X w=>?_⟩
 .rw[Z0 (N.lt v w),j v w]
 .have h:=N.lo (by lia) w
  have U:=N.lt v w
  rw[Z0 (by lia)]
  have e:f v-3+3=f v:=by lia
  rw[e,j v w]
end K09
namespace TT
end TT
namespace LV
open PySem PyProof.Rows L2
end LV
namespace TT
end TT
namespace K09
open PySem L2 LV PyProof.Rows
theorem aI1 (l:AC):tN l=tI (l.map λ(x:Nat)=>(x:Int)):=by unfold tN tI nI;simp
structure Dw (m:Nat)(dr tr:AA):Prop where
 m7:m<=7
 len:dr.length=m+3
 good:TT.Good (m+3) (TT.trn dr)
theorem N5 (h:p<dr.length):dr[p]? = some (TT.trn dr p):=by
 unfold TT.trn;rw[Aa2 h];rfl
def pD (x:Int×Int):PyData:=tI [x.1,x.2]
theorem cP6 (q:Int)(l:AC):(nI l).any (λz=>PyData.eqv z (.int q))=decide (q∈l.map λ(x:Nat)=>(x:Int)):=by
 unfold nI;induction l with
 | nil=>rfl
 | cons y l e=>
  rw[Ac7,List.any_cons,e,cB8];by_cases h:(y:Int)=q
  .subst h;simp
  .have:¬q=(y:Int):=λz=>h z.symm
   simp[h,this]
def td (dr:AA)(p q:Int):Bool:=(decide (0<=p)&&decide (p<(dr.length:Int)))&&decide (q∈(TT.trn dr p.toNat).map λ(x:Nat)=>(x:Int))
def it (dr:AA)(x:Int×Int):Bool:=td dr x.1 x.2&&decide (max x.1 x.2≥3)
def cV9 (ds:AF)(d:PyData):Prop:=∃(dr:AA) (p q:Int),ds=[tD dr,.int p,.int q]/\d=.bool (td dr p q)
def dK3 (ds:AF)(d:PyData):Prop:=∃(dr:AA) (p q:Int),ds=[tD dr,.int p,.int q]/\d=.bool (it dr (p,q))
def cA1 (ts:AB):AB:=ts.mergeSort λa b => !HT.aA6 b a
theorem U7 (ts:AB):(cA1 ts).Perm ts:=List.mergeSort_perm _ _
theorem bW5 (ts:AB):(cA1 ts).Pairwise P5:=by
 have:=List.pairwise_mergeSort (le:=λa b:AD => !HT.aA6 b a) (λa b d h1 e=>by
  have:=aP7 a b d (by unfold P5;simpa using h1) (by unfold P5;simpa using e)
  unfold P5 at this;simp[this]) (λa b=>by
  rcases bW7 a b with h | h <;> unfold P5 at h <;> simp[h]) ts
 refine this.imp λh=>?_
 unfold P5;simpa using h
end K09
namespace TT
open Classical
theorem cX2:∀{l:AC} {a b:Nat},lin l a b↔∃p s,l=p++a::b::s
 | [],a,b=>by simp[lin]
 | [c],a,b=>by
  simp only[lin,false_iff];rintro⟨p,s,e⟩
  have:=congrArg List.length e
  simp at this
  lia
 | c::d::l,a,b=>by
  rw[D1,cX2 (l:=d::l)];constructor
  .rintro (⟨rfl,rfl⟩ | ⟨p,s,e⟩)
   .exact⟨[],l,rfl⟩
   .exact⟨c::p,s,by rw[e];rfl⟩
  .rintro⟨p,s,e⟩;cases p with
   | nil=>simp at e;exact .inl ⟨e.1.symm,e.2.1.symm⟩
   | cons c' p=>simp at e;exact .inr ⟨p,s,e.2⟩
theorem adj_iff:adj l a b↔(∃p s,l=p++a::b::s)\/∃p,l=p++[a]/\l.head? = some b:=by
 unfold adj;rw[cX2];cases l with
 | nil=>simp
 | cons c l=>
  simp only[List.take_succ_cons,List.take_zero,List.head?_cons,Option.some.injEq];constructor
  .rintro⟨p,s,e⟩;rcases Ac5 s with w | ⟨r,d,w⟩
   .subst w;have e':(c::l)++[c]=(p++[a])++[b]:=by rw[e];simp
    have:=List.append_inj' e' rfl
    exact .inr ⟨p,this.1,by simpa using this.2⟩
   .subst w;have e':(c::l)++[c]=(p++a::b::r)++[d]:=by rw[e];simp
    exact .inl ⟨p,r,(List.append_inj' e' rfl).1⟩
  .rintro (⟨p,s,e⟩ | ⟨p,e,rfl⟩)
   .exact⟨p,s++[c],by rw[e];simp⟩
   .exact⟨p,[],by rw[e];simp⟩
theorem aJ0 {l p s:AC}{u:Nat}(nd:l.Nodup)(e:l=p++u::s):l.idxOf u=p.length:=by
 have hp:u∉p:=λw=>by rw[e]at nd;exact(Aa4.mp nd).2.2 u w u (by simp) rfl
 rw[e,List.idxOf_append,Ab hp];simp
section
def gi (rim:AC)(k:Nat):Nat:=rim.getD k 0
theorem bM5 {k:Nat}(h:k<rim.length):rim[k]? = some (gi rim k):=by
 unfold gi;rw[Ac0,Aa2 h];rfl
theorem eF9 (nd:rim.Nodup)(w:j<rim.length)(r:k<rim.length)(e:gi rim j=gi rim k):j=k:=by
 have h1:=bM5 w
 have s:=bM5 r
 rw[<- e]at s;rw[Aa2 w]at h1;rw[Aa2 r]at s;have e':rim[j]=rim[k]:=by rw[Ab4 h1,Ab4 s]
 by_cases X:j<k
 .exact absurd e' (List.pairwise_iff_getElem.mp nd j k w r X)
 .by_cases Y:k<j
  .exact absurd e'.symm (List.pairwise_iff_getElem.mp nd k j r w Y)
  .lia
theorem eF8 (h:k+1<rim.length):adj rim (gi rim k) (gi rim (k+1)):=by
 refine adj_iff.mpr (.inl ⟨rim.take k,rim.drop (k+2),?_⟩);have h1:=bM5 (rim:=rim) (k:=k) (by lia)
 have e:=bM5 h
 rw[Aa2 (by lia)]at h1
 rw[Aa2 h]at e;rw[<- Ab4 h1,<- Ab4 e];rw[<- List.drop_eq_getElem_cons h,<- List.drop_eq_getElem_cons (show k<rim.length by lia),Ad3]
theorem dX7 (h:0<rim.length):adj rim (gi rim (rim.length-1)) (gi rim 0):=by
 refine adj_iff.mpr (.inr ⟨rim.take (rim.length-1),?_,?_⟩)
 .have h1:=bM5 (rim:=rim) (k:=rim.length-1) (by lia)
  rw[Aa2 (by lia)]at h1
  rw[<- Ab4 h1]
  have:=Ad3 (rim.length-1) rim
  rw[Cb (by lia),List.drop_eq_nil_of_le (by lia)]at this
  exact this.symm
 .rw[List.head?_eq_getElem?];exact bM5 h
end
theorem dF7 {L:AC}{q:Nat}(h:q∈L):gi L (L.idxOf q)=q:=by
 unfold gi;rw[Ac0,Aa2 (Cc.mpr h)]
 simp
section
theorem eK3 (nd:l.Nodup)(h:adj l x y)(h':adj l x y'):y=y':=by
 rcases adj_iff.mp h with⟨p,s,e⟩ | ⟨p,e,J⟩
 .rcases adj_iff.mp h' with⟨r,M,e'⟩ | ⟨r,e',w⟩
  .have X:=aJ0 nd e
   have U:=aJ0 nd e'
   have:=List.append_inj (e.symm.trans e') (by lia)
   simpa using(List.cons.inj (List.cons.inj this.2).2).1
  .have X:=aJ0 nd e
   have U:=aJ0 nd (p:=r) (s:=[]) e'
   have j:=congrArg List.length e
   have Y:=congrArg List.length e'
   simp at j Y;lia
 .rcases adj_iff.mp h' with⟨r,M,e'⟩ | ⟨r,e',w⟩
  .have X:=aJ0 nd (p:=p) (s:=[]) e
   have U:=aJ0 nd e'
   have j:=congrArg List.length e
   have Y:=congrArg List.length e'
   simp at j Y;lia
  .rw[J]at w;exact Ab4 w
end
def prd (l:AC)(x:Nat):Nat:=if l.idxOf x=0 then gi l (l.length-1) else gi l (l.idxOf x-1)
theorem dW9 (h:x∈l):adj l (prd l x) x:=by
 have w:=Cc.mpr h
 unfold prd;by_cases e:l.idxOf x=0
 .rw[Ac e]
  have:=dX7 (rim:=l) (by lia)
  rwa [<- e,dF7 h]at this
 .rw[Ab e]
  have:=eF8 (rim:=l) (k:=l.idxOf x-1) (by lia)
  rwa [show l.idxOf x-1+1=l.idxOf x by lia,dF7 h]at this
def th (r:Nat->AC)(p q:Nat):Nat:=prd (r q) p
def nrm (x y z:Nat):AC:=if x<y/\x<z then [x,y,z] else if y<z/\y<x then [y,z,x] else [z,x,y]
def lnd (r:Nat->AC)(p q:Nat):AC:=nrm p q (th r p q)
section
theorem Good.th (G:Good n r)(h:q∈r p):adj (r p) q (th r p q):=G.tri _ _ _ (G.tri _ _ _ (dW9 (G.sym h)))
theorem Good.th_mem (G:Good n r)(h:q∈r p):TT.th r p q∈r q/\p∈r (TT.th r p q):=by
 have:=G.th h
 have h1:=C6 (G.tri _ _ _ this)
 have e:=C6 (G.tri _ _ _ (G.tri _ _ _ this))
 exact⟨h1.1,e.1⟩
theorem Good.th_ne (G:Good n r)(h:q∈r p):p≠q/\q≠TT.th r p q/\p≠TT.th r p q:=by
 have s:∀{a b},b∈r a->a≠b:=λ{a b} h e=>G.self a (by rw[<- e]at h;exact h)
 have:=G.th_mem h
 exact⟨s h,s this.1,λe=>s this.2 e.symm⟩
theorem Good.th_un (G:Good n r)(h:adj (r p) q x):x=TT.th r p q:=eK3 (G.nd p) h (G.th (C6 h).1)
theorem Good.th_rot (G:Good n r)(h:q∈r p):TT.th r q (TT.th r p q)=p:=(G.th_un (G.tri _ _ _ (G.th h))).symm
theorem Good.th_rot2 (G:Good n r)(h:q∈r p):TT.th r (TT.th r p q) p=q:=(G.th_un (G.tri _ _ _ (G.tri _ _ _ (G.th h)))).symm
theorem cV2 (h1:x≠y)(e:y≠z)(w:x≠z):nrm x y z=nrm y z x:=by
 unfold nrm;by_cases a:x<y/\x<z
 .rw[Ac a,Ab (by lia),Ab (by lia)]
 .rw[Ab a];by_cases b:y<z/\y<x
  .rw[Ac b,Ac (by lia)]
  .rw[Ab b,Ab (by lia),Ac (by lia)]
theorem Good.lnd_rot (G:Good n r)(h:q∈r p):lnd r p q=lnd r q (TT.th r p q):=by
 obtain⟨a,b,c⟩:=G.th_ne h;unfold lnd;rw[G.th_rot h];exact cV2 a b c
theorem aP0 (x y z:Nat):nrm x y z=[x,y,z]\/nrm x y z=[y,z,x]\/nrm x y z=[z,x,y]:=by
 unfold nrm;split
 .exact .inl rfl
 .split
  .exact .inr (.inl rfl)
  .exact .inr (.inr rfl)
theorem Good.lnd_eq (G:Good n r)(h:q∈r p)(h':q'∈r p')(e:lnd r p q=lnd r p' q'):(p'=p/\q'=q)\/(p'=q/\q'=TT.th r p q)\/(p'=TT.th r p q/\q'=p):=by
 have Y:=G.th_rot h'
 have X:=G.th_rot2 h'
 have j:=G.th_rot h
 have s:=G.th_rot2 h
 unfold lnd at e;generalize TT.th r p q=t at *;generalize w:TT.th r p' q'=t' at *;rcases aP0 p q t with e1 | e1 | e1 <;> rcases aP0 p' q' t' with e2 | e2 | e2 <;> rw[e1,e2]at e <;> simp only[Ax,and_true]at e <;> obtain⟨a,b,c⟩:=e <;> subst a b c <;> simp
def gps (r:Nat->AC)(n:Nat):List (Nat×Nat):=((List.range n).map λp=>(r p).map λq=>(p,q)).flatten
theorem Good.gps_mem (G:Good n r):x∈gps r n↔x.2∈r x.1:=by
 unfold gps;simp only[List.mem_flatten,Aa8,Ab5];constructor
 .rintro⟨l,⟨p,hp,rfl⟩,w⟩;obtain⟨q,e,rfl⟩:=Aa8.mp w;exact e
 .intro h;refine⟨_,⟨x.1,?_,rfl⟩,Aa8.mpr ⟨x.2,h,rfl⟩⟩;rcases Dm x.1 n with z | z
  .exact z
  .rw[G.hi _ z]at h;cases h
theorem Good.gps_nd (G:Good n r):(gps r n).Nodup:=by
 unfold gps;have w:∀m,(((List.range m).map λp=>(r p).map λq=>(p,q)).flatten).Nodup:=λm=>by
  induction m with
  | zero=>simp
  | succ m Y=>
   rw[Bh,Ad2,List.flatten_append,Aa4];refine⟨Y,?_,λx j y s e=>?_⟩
   .simp only[Ac7,By,Bu,List.flatten_nil,Ba];rw[Ac6,Ae0];exact(Ac6.mp (G.nd m)).imp λ{a b} h e=>h (congrArg Prod.snd e)
   .subst e;simp only[List.mem_flatten,Aa8,Ab5,Ac7,By,Bu,List.flatten_nil,Ba]at j s;obtain⟨l,⟨p,hp,rfl⟩,h1⟩:=j;obtain⟨q,_,rfl⟩:=Aa8.mp h1;obtain⟨X,_,e⟩:=s
    have:=congrArg Prod.fst e
    simp at this;lia
 exact w n
theorem Good.gps_len (G:Good n r):(gps r n).length+12=6*n:=by
 have:=G.sum
 unfold gps;rw[List.length_flatten,Ae2];simpa[Function.comp_def]using this
def low (r:Nat->AC)(x:Nat×Nat):Bool:=decide (x.1<x.2)&&decide (x.1<th r x.1 x.2)
def rds (r:Nat->AC)(n:Nat):AA:=((gps r n).filter (low r)).map λx=>[x.1,x.2,th r x.1 x.2]
theorem W6 {a b c:Nat}(h1:a≠b)(e:b≠c)(w:a≠c):((a<b/\a<c)/\(¬b<a\/¬b<c)/\(¬c<a\/¬c<b))\/((¬a<b\/¬a<c)/\(b<a/\b<c)/\(¬c<a\/¬c<b))\/((¬a<b\/¬a<c)/\(¬b<a\/¬b<c)/\(c<a/\c<b)):=by lia
theorem eG8 {α:Type}[DecidableEq α]{l:List α}(nd:l.Nodup):∀{m:List α},(∀x∈l,x∈m)->l.length<=m.length:=by
 induction l with
 | nil=>intro m _;simp
 | cons a l r=>
  intro m h;rw[Aa5]at nd
  have:=r nd.2 (m:=m.erase a) λx w=>by
   refine(List.mem_erase_of_ne ?_).mpr (h x (by simp[w]))
   intro e;subst e;exact nd.1 w
  rw[De (h a (by simp))]at this
  have hp:0<m.length:=Cn (h a (by simp))
  simp;lia
theorem Good.rds_len (G:Good n r):(rds r n).length+4=2*n:=by
 unfold rds;rw[Aa3];have tot:=G.gps_len
 let φ:Nat×Nat->Nat×Nat:=λx=>(x.2,TT.th r x.1 x.2)
 have mφ:∀x∈gps r n,φ x∈gps r n:=λx w=>G.gps_mem.mpr (G.th_mem (G.gps_mem.mp w)).1
 have iφ:∀x∈gps r n,∀y∈gps r n,φ x=φ y->x=y:=λx w y Y e=>by
  have h1:x.2=y.2:=congrArg Prod.fst e
  have R:TT.th r x.1 x.2=TT.th r y.1 y.2:=congrArg Prod.snd e
  have P:=G.th_rot (G.gps_mem.mp w)
  have k2:=G.th_rot (G.gps_mem.mp Y)
  rw[R,h1]at P;exact Prod.ext (P.symm.trans k2) h1
 let j:Nat×Nat->Bool:=λx=>decide (x.2<x.1)&&decide (x.2<TT.th r x.1 x.2)
 let s:Nat×Nat->Bool:=λx=>decide (TT.th r x.1 x.2<x.1)&&decide (TT.th r x.1 x.2<x.2)
 have nd:=G.gps_nd
 have F:∀b:Nat×Nat->Bool,(((gps r n).filter b).map φ).Nodup:=λb=>by
  rw[Ac6,Ae0];exact Cs (λ{x y} w Y Q e=>Q (iφ x (Bf.mp w).1 y (Bf.mp Y).1 e)) (Ac6.mp (nd.filter b))
 have step:∀b U:Nat×Nat->Bool,(∀x∈gps r n,b x=true->U (φ x)=true)->((gps r n).filter b).length<=((gps r n).filter U).length:=λb U h=>by
  rw[<- Aa3 (f := φ) (as:=(gps r n).filter b)];refine eG8 (F b) λy Y=>?_
  obtain⟨x,w,rfl⟩:=Aa8.mp Y;obtain⟨h1,R⟩:=Bf.mp w;exact Bf.mpr ⟨mφ x h1,h x h1 R⟩
 have s10:=step j (low r) λx w h=>by
  have k:=G.th_rot (G.gps_mem.mp w)
  simp only[j,low,φ,Ap,Ak]at h ⊢;rw[k];exact⟨h.2,h.1⟩
 have s21:=step s j λx w h=>by
  have k:=G.th_rot (G.gps_mem.mp w)
  simp only[j,s,φ,Ap,Ak]at h ⊢;rw[k];exact⟨h.2,h.1⟩
 have s02:=step (low r) s λx w h=>by
  have k:=G.th_rot (G.gps_mem.mp w)
  simp only[low,s,φ,Ap,Ak]at h ⊢;rw[k];exact⟨h.1,h.2⟩
 have X:∀l:List (Nat×Nat),(∀x∈l,x∈gps r n)->(l.filter (low r)).length+(l.filter j).length+(l.filter s).length=l.length:=λl=>by
  induction l with
  | nil=>intro _;rfl
  | cons x l B=>
   intro h;have B:=B λy Y=>h y (by simp[Y])
   obtain⟨a,b,c⟩:=G.th_ne (G.gps_mem.mp (h x (by simp)))
   have d:(low r x=true/\j x=false/\s x=false)\/(low r x=false/\j x=true/\s x=false)\/(low r x=false/\j x=false/\s x=true):=by
    simp only[low,j,s,Ap,Bool.and_eq_false_iff,Ak,Bv];exact W6 a b c
   rcases d with⟨J,M,N⟩ | ⟨J,M,N⟩ | ⟨J,M,N⟩ <;> simp only[List.filter_cons,J,M,N,if_true,Av] <;> simp <;> lia
 have:=X (gps r n) λ_ h=>h
 lia
theorem Good.rds_mem (G:Good n r):l∈rds r n↔∃p q,q∈r p/\l=lnd r p q:=by
 unfold rds;simp only[Aa8,Bf];constructor
 .rintro⟨x,⟨X,j⟩,rfl⟩;refine⟨x.1,x.2,G.gps_mem.mp X,?_⟩;simp only[low,Ap,Ak]at j;unfold lnd nrm;rw[Ac j]
 .rintro⟨p,q,e,rfl⟩;obtain⟨a,b,c⟩:=G.th_ne e;have m:=G.th_mem e;have s:=G.th_rot e;have Y:=G.th_rot2 e;unfold lnd nrm;by_cases h1:p<q/\p<TT.th r p q
  .rw[Ac h1];exact⟨(p,q),⟨G.gps_mem.mpr e,by simp[low,h1]⟩,rfl⟩
  .rw[Ab h1];by_cases w:q<TT.th r p q/\q<p
   .rw[Ac w];exact⟨(q,TT.th r p q),⟨G.gps_mem.mpr m.1,by simp[low,s,w]⟩,by simp[s]⟩
   .rw[Ab w];exact⟨(TT.th r p q,p),⟨G.gps_mem.mpr m.2,by simp[low,Y];lia⟩,by simp[Y]⟩
theorem Good.rds_nd (G:Good n r):(rds r n).Nodup:=by
 unfold rds;rw[Ac6,Ae0];exact(Ac6.mp (G.gps_nd.filter _)).imp λ{x y} h e=>h (by
  simp only[Ax,and_true]at e;exact Prod.ext e.1 e.2.1)
end
def wys:AC->List (Nat×Nat)
 | [x,y,z]=>[(z,x),(x,y),(y,z)]
 | _=>[]
section
variable {n:Nat}{r:Nat->AC}{sh:List (Nat×Nat)}{a b:Nat}
theorem Good.wys_lnd (G:Good n r)(h:q∈r p):x∈wys (lnd r p q)↔(x=(p,q)\/x=(q,TT.th r p q)\/x=(TT.th r p q,p)):=by
 unfold lnd;rcases aP0 p q (TT.th r p q) with e | e | e <;> rw[e] <;> simp only[wys,Aa1,Ac2,or_false] <;> constructor <;> intro z <;> rcases z with z | z | z <;> simp[z]
theorem Good.wys_back (G:Good n r)(h:q∈r p)(j:x∈wys (lnd r p q)):x.2∈r x.1/\lnd r x.1 x.2=lnd r p q:=by
 have m:=G.th_mem h
 have e:=G.lnd_rot h
 have w:=G.lnd_rot m.1
 rw[G.th_rot h]at w;rcases (G.wys_lnd h).mp j with rfl | rfl | rfl
 .exact⟨h,rfl⟩
 .exact⟨m.1,e.symm⟩
 .exact⟨m.2,(e.trans w).symm⟩
end
end TT
namespace L2
open PySem PySem.Spec PyProof.Rows
abbrev qn (κ:Bool):String:=match κ with | true => "list_iterator" | false => "tuple_iterator"
section
theorem dS2 {l b:Addr}{h h':Heap}{xs:AJ}(H:h.IsTuple l xs)(k:∀o,h.get? l=some o->h'.get? l=some o):h'.IsTuple l xs:=by
 obtain⟨o,e,r⟩:=H;exact⟨o,k o e,r⟩
abbrev zT1 (κ:Bool)(h:Heap)(l1:Addr):Heap:=h.push {cls:=.type (qn κ),data:=.fields #[.ref l1,.int 0 0]}
abbrev zT2 (κ:Bool)(h:Heap)(l1 l2:Addr):Heap:=(zT1 κ h l1).push {cls:=.type "tuple_iterator",data:=.fields #[.ref l2,.int 0 0]}
abbrev zT3 (κ:Bool)(h:Heap)(l1 l2:Addr):Heap:=(zT2 κ h l1 l2).push {cls:=.type "tuple",data:=.seq #[.ref h.objs.size,.ref (zT1 κ h l1).objs.size]}
abbrev zT4 (κ:Bool)(h:Heap)(l1 l2:Addr):Heap:=(zT3 κ h l1 l2).push {cls:=.type "tuple",data:=.seq #[.none,.none]}
abbrev zT5 (κ:Bool)(h:Heap)(l1 l2:Addr):Heap:=(zT4 κ h l1 l2).push {cls:=.type "zip",data:=.fields #[.none,.bool false,.bool false,.ref (zT2 κ h l1 l2).objs.size,.ref (zT3 κ h l1 l2).objs.size]}
end
end L2
namespace LV
open PySem PySem.Spec PyProof.Rows L2
section
variable {K:Frag}{B:Hp}{ρ ρ':List Sl}{m:Bool}{t ta tb:TE}{d d':PyData}{ds es:AF}
theorem bO2 (h:PySem.W.subIn K (.ref C) v=some true):L2.subIn K C v=true:=by
 have h:PySem.W.mroIn K C v=some true:=h
 unfold PySem.W.mroIn at h;obtain⟨w,a,b⟩:=Option.bind_eq_some_iff.mp h;split at b
 .cases b
 .unfold PySem.W.clsIn at a;unfold L2.subIn
  revert a
  split
  .rename_i e;intro z;cases z;rw[e];simpa using b
  .intro z;cases z
end
end LV
namespace L2
open PySem PySem.Spec PyProof.Rows
section
theorem dQ7 (N:A.handled=none)(Y:s.heap.IsTuple l (intItems xs))(X:0<xs.size)
  (h:∀v h' tk,(intItems xs)[argBest (λi j=>decide (numAt xs i<numAt xs j)) (xs.size-1)]? = some v->(∀b o,s.heap.get? b=some o->h'.get? b=some o)->Q v {s with heap:=h',toks:=tk}):wpAny (model P w) A (call (.builtin "min") [.ref l]) Q E s:=by
 have r:l<s.heap.objs.size:=by obtain⟨_,e,_⟩:=Y;exact Ab3 e
 refine call_min_walk (wpAny_pyIter_tuple Y ?_);refine⟨_,_,_,_,_,_,_,rfl,Walks.tuple (A:=A.in1) N _ l (Ab9 r) (intItems xs),⟨⟨_,Ac3 _ rfl,rfl,rfl⟩,dS2 (b:=l) Y λo e=>Aa6 _ e⟩,λb U=>?_,by simpa[intItems]using X,CmpOf.ints_lt (numAt xs) (λ_ _=>intItems_at),λv h' tk M R=>?_⟩
 .show b<(s.heap.push _).objs.size
  rw[Cf];simp only[Aa1,Ac2,or_false]at U;rcases U with rfl | rfl
  .exact Nat.lt_succ_self _
  .exact Ds r
 .exact h v h' tk (by simpa[intItems]using M) λb o e=>R b o (λF=>by
   have J:b=s.heap.objs.size:=by simpa using F
   exact absurd (J▸Ab3 e) (Ad9 _)) (Aa6 _ e)
theorem dC3 (K:Frag)(B:X.calm=true)(h:X.K=K:=by rfl):m6 X (.builtin "min") (λxs H Q=>∃(p:Addr) (l:AD),xs=[.ref p]/\SqT K H p (l.map V.int)/\l≠[]/\∀M,M∈l->(∀a∈l,M<=a)->Q (.int M) H):=by
 subst h;intro bA s σ H xs us Q I r ⟨p,ns,e,hq,Y,q⟩;subst e;obtain⟨u,rfl,rx⟩:=aR3 r;cases rx;obtain⟨its,rv,R,_⟩:=I.tuple hq;have hi:=LV.i9 rv;obtain⟨xs,e⟩:=hi.allInts.items;have w:ns=xs.toList.map (·.1):=by rw[<- hi.numsOf,<- nums_intItems,<- e]
 have U:0<xs.size:=by
  have J:=Dd.mpr Y;rw[w,Aa3,Bj]at J;exact J
 rw[e]at R;refine dQ7 (I.ok.hd B) R U λv h' tk hv hk=>?_
 obtain⟨t,rfl⟩:=intItems_at hv;obtain⟨h1,F⟩:=argBest_lt (numAt xs) (xs.size-1);refine⟨.int _,H,I.kept hk,⟨_,rfl⟩,q _ ?_ λa N=>?_⟩
 .rw[w,numAt_eq];exact getD_mem (by rw[Aa3,Bj];lia)
 .rw[w]at N;obtain⟨j,P,rfl⟩:=mem_getD N;rw[Aa3,Bj]at P;rw[<- numAt_eq];exact F j (by lia)
end
end L2
namespace LV
open PySem PySem.Spec PyProof.Rows L2
section
variable {K:Frag}{ρ:List Sl}{m:Bool}{t ta tb:TE}{d d':PyData}{ds es:AF}
theorem eN6 {t:TA}{l:AD}{M:Int}(Y:A K false t ρ [tI l])(e:M∈l/\∀a∈l,M<=a):E K m (tCB (λxs H Q=>∃(p:Addr) (l:AD),xs=[.ref p]/\SqT K H p (l.map V.int)/\l≠[]/\∀M,M∈l->(∀a∈l,M<=a)->Q (.int M) H) t) ρ (.int M):=dU2 Y λH vs Q r q=>by
 cases r with
 | cons a b=>
  cases b
  obtain⟨p,rfl,s⟩:=cT8 a;refine⟨p,l,rfl,s,List.ne_nil_of_mem e.1,λw h1 j=>?_⟩
  have:w=M:=Int.le_antisymm (j M e.1) (e.2 w h1)
  rw[this];exact q _ λ_=>.int _
end
end LV
namespace K09
open PySem L2 LV PyProof.Rows
theorem aQ1:B8 ["ring"] ["ring"] (A9 W7):={}
theorem bR9:B8 ["ring"] ["ring"] (A9 aF2):={}
theorem cG1:B8 ["turn", "place"] ["turn", "place"] (A9 aU0):={}
theorem P3:B8 ["turns", "p", "q", "corners", "here", "there", "behind"] ["turns", "p", "q"] (A9 aF8):={}
theorem aR6:B8 ["ring", "first", "at"] ["ring", "first"] (A9 aG1):={}
theorem cX3 (l:AC)(k:Nat):(nI l).drop k=nI (l.drop k):=by simp[nI]
theorem cX1 (l:AC)(k:Nat):(nI l).take k=nI (l.take k):=by simp[nI]
def wys (x y z:Int):List (Int×Int):=[(z,x),(x,y),(y,z)]
def eA1 (ds es:AF):Prop:=∃x y z:Int,ds=[tI [x,y,z]]/\es=(wys x y z).map pD
def fWy (x y z:Int):PyData->Option PyData
 | .int k=>some (pD (if k=0 then(z,x) else if k=1 then(x,y) else(y,z)))
 | _=>none
def eP8 (ds:AF)(d:PyData):Prop:=∃(l:AC) (x:Nat),x∈l/\l.length<=10000/\ds=[tN l,.int (x:Int)]/\d=.int (TT.prd l x:Nat)
def eQ2 (ds:AF)(d:PyData):Prop:=∃(m:Nat) (dr tr:AA) (p q:Nat),Dw m dr tr/\q∈TT.trn dr p/\ds=[tD dr,.int (p:Int),.int (q:Int)]/\d=tN [p,q,TT.th (TT.trn dr) p q]
def dF4 (ds:AF)(d:PyData):Prop:=∃(m:Nat) (dr tr:AA) (p q:Nat),Dw m dr tr/\q∈TT.trn dr p/\ds=[tD dr,.int (p:Int),.int (q:Int)]/\d=.int (TT.th (TT.trn dr) p q:Nat)
theorem dG6 (h:x∈l):atI (nI l) ((l.idxOf x:Nat)-1:Int)=some (.int (TT.prd l x:Nat)):=by
 have j:=Cc.mpr h
 unfold TT.prd;by_cases e:l.idxOf x=0
 .rw[Ac e,e];have w:l=l.dropLast++[TT.gi l (l.length-1)]:=by
   have h1:=List.dropLast_concat_getLast (l:=l) (by intro z;rw[z]at h;cases h)
   have r:TT.gi l (l.length-1)=l.getLast (by intro z;rw[z]at h;cases h):=by
    unfold TT.gi;rw[Ac0,Aa2 (by lia),List.getLast_eq_getElem];rfl
   rw[r];exact h1.symm
  generalize TT.gi l (l.length-1)=y at w;rw[w,o9];exact aZ3
 .rw[Ab e];refine S1 (l.idxOf x-1) (by lia) ?_
  unfold nI;rw[Aa9,TT.bM5 (by lia)];rfl
theorem Dw.tle (h:Dw m dr tr)(p:Nat):(TT.trn dr p).length<=10:=by
 have:=TT.dT0 (h.good.nd p) (h.good.lt p)
 have:=h.m7
 lia
theorem Dw.lt (h:Dw m dr tr)(e:q∈TT.trn dr p):p<m+3:=by
 rcases Dm p (m+3) with z | z
 .exact z
 .rw[h.good.hi p z]at e;cases e
theorem Dw.at_ (h:Dw m dr tr)(hp:p<m+3):atI (dr.map tN) (p:Int)=some (tN (TT.trn dr p)):=
 S1 p rfl (by rw[Aa9,N5 (by rw[h.len];exact hp)];rfl)
theorem aP5 (h1:x≠y)(X:y≠z)(U:x≠z):TT.B5 [x,y,z]=TT.nrm x y z:=by
 obtain⟨M,N,r,R⟩:∃M:Nat,M∈[x,y,z]/\(∀c∈[x,y,z],M<=c)/\[x,y,z].drop ([x,y,z].idxOf M)++[x,y,z].take ([x,y,z].idxOf M)=TT.nrm x y z:=by
  unfold TT.nrm;by_cases j:x<y/\x<z
  .rw[Ac j];exact⟨x,by simp,λc w=>by simp at w;lia,by simp⟩
  .rw[Ab j];by_cases Y:y<z/\y<x
   .rw[Ac Y];exact⟨y,by simp,λc w=>by simp at w;lia,by rw[show [x,y,z].idxOf y=1 from TT.aJ0 (p:=[x]) (s:=[z]) (by simp[h1,X,U]) rfl];rfl⟩
   .rw[Ab Y];exact⟨z,by simp,λc w=>by simp at w;lia,by rw[show [x,y,z].idxOf z=2 from TT.aJ0 (p:=[x,y]) (s:=[]) (by simp[h1,X,U]) rfl];rfl⟩
 have e:TT.mn [x,y,z]=M:=by
  have J:=TT.aO7 (l:=[x,y,z]) (by simp)
  have Q:=J.2 M N
  have F:=r _ J.1
  lia
 unfold TT.B5;rw[e,R]
def eI8 (ds:AF)(d:PyData):Prop:=∃(l:AD) (x:Int),x∈l/\l.length<=10000/\ds=[tI l,.int x]/\d=tI (l.drop (l.idxOf x)++l.take (l.idxOf x))
def cO3 (ds:AF)(d:PyData):Prop:=∃l:AD,l≠[]/\l.length<=10000/\ds=[tI l]/\d=tI (z5 l)
section
variable {P:Program}{w:World}{K:Frag}{mg:Str->Option Value}{base:Heap}{a:Ad}
theorem eG7 (T:Tx K mg a):FnOk P w K mg base CX0 1 a.bA0 a.bA6 ["ring", "first"] (spV K eI8):=by
 refine T.aZ8.F.ok aR6 (Y7 λds d ⟨_,_,_,_,e,_⟩=>by rw[e];rfl) (λJ A j s H vs Q E R h=>?_)
 obtain⟨ds,S,d,M,r,⟨l,x,U,N,rfl,rfl⟩,q⟩:=h;refine⟨_,(A3 (psS 2 aR6 (S7 PySem.F.plainAttrs_tuple PySem.F.slot_tuple_index PySem.F.type_tuple_index (aC8 K) (pv 0) (A0 (pv 1) A2)))
   (A7 (B7 (B1 (aZ6 K) (P9 (cA0 K) (pv 0) (S0 (pv 2)) Z1) (P9 (cA0 K) (pv 0) Z1 (S0 (pv 2))))))),M0 M r ?_ q⟩
 have X:l.idxOf x<l.length:=Ac4 U
 refine A8 (E5 (d:=.int (l.idxOf x:Nat)) (aK7 (l:=l) (k:=x) v0 v1 U) ?_);have Y:(l.map PyData.int).length=l.length:=Aa3 ..;refine E9 (cA8 (aL7 (ds:=l.map PyData.int) v0 (U1 v2) j7 (N0 l)) (aL7 (ds:=l.map PyData.int) v0 j7 (U1 v2) (N0 l)) (V6 _ _ (N0 l)) (V6 _ _ (N0 l)) ?_ ?_) ?_
 .rw[aO0 (by lia)]
  intro z
  have:=congrArg List.length z
  rw[Bm,Y]at this;simp at this
  lia
 .rw[aO0 (by lia),aL2 (by lia),Bm,Ad1,Y];unfold sizeLine;lia
 .show PyData.tuple _=tI _
  rw[aO0 (by lia),aL2 (by lia),<- List.map_drop,<- List.map_take,<- Ad2];try rfl
theorem dZ0 (T:Tx K mg a):FnOk P w K mg base CX0 1 a.aY6 a.aW1 ["ring"] (spL K eA1):=by
 refine T.aW9.F.ok bR9 (cP0 λds d ⟨_,_,_,e,_⟩=>by rw[e];rfl) (λX A Y s H vs Q E R h=>?_)
 obtain⟨ds,S,N,J,r,⟨x,y,z,rfl,rfl⟩,q⟩:=h;refine⟨_,(A7 (B7 (U5 (T:=["k"]) (N':=["k", "ring"]) (is:=[0]) rfl (.of rfl rfl rfl (by exact⟨rfl,trivial⟩) rfl rfl rfl (by exact⟨⟨_,rfl,by first | exact .inl rfl | exact .inr rfl,by first | exact .inl rfl | exact .inr rfl⟩,trivial⟩)) (N1 rfl T.O6 (A0 (C0 (aD7 K) (by rfl) T.O9 Am (A0 (pv 0) A2)) A2)) (T3 (by decide)) λ_ _ _ _=>⟨(R5 (i:=0) (by decide +kernel:(["k", "ring"]:AH).Nodup) rfl (Or.inl rfl)),i3,(H9 (A0 (B4 (ixK K) (pv 1) (B1 S2 (pv 0) A4) (λ_ _=>rfl)) (A0 (B4 (ixK K) (pv 1) (pv 0) (λ_ _=>rfl)) A2)))⟩))),aS3 J r ?_ q⟩
 have U:=U3 (K:=K) (m:=true) (ρ:=sl0 ["ring"].length [tI [x,y,z]]) (n:=1) (is:=[0]) (g:=M8 0) (tt:=cF6) (te:=cS5 (E7 (tOp (rIx K) (C7 1) (tOp (rI0 λi j=>.int (i-j)) (C7 0) (tC (.int 1)))) (E7 (tOp (rIx K) (C7 1) (C7 0)) R6))) (fWy x y z) (a8 (j:=3) (A1 (M9 (ds:=[.int x,.int y,.int z]) (A1 v0 A5)) A5) (by lia) (by lia)) (by decide) (λd M=>by
  obtain⟨i,hi⟩:=List.mem_iff_getElem?.mp M;obtain⟨rfl,hi⟩:=Z8 hi;refine⟨_,F8,aU4,?_⟩;have hi:i<3:=by lia
  rcases (show i=0\/i=1\/i=2 by lia) with rfl | rfl | rfl
  .exact N3 (A1 (C9 (i:=((0:Nat):Int)-1) (d':=.int z) (ds:=[.int x,.int y,.int z]) v1 (N4 (g:=λi j=>i-j) v0 A6) rfl rfl) (A1 (C9 (i:=0) (d':=.int x) (ds:=[.int x,.int y,.int z]) v1 v0 rfl rfl) A5))
  .exact N3 (A1 (C9 (i:=((1:Nat):Int)-1) (d':=.int x) (ds:=[.int x,.int y,.int z]) v1 (N4 (g:=λi j=>i-j) v0 A6) rfl rfl) (A1 (C9 (i:=1) (d':=.int y) (ds:=[.int x,.int y,.int z]) v1 v0 rfl rfl) A5))
  .exact N3 (A1 (C9 (i:=((2:Nat):Int)-1) (d':=.int y) (ds:=[.int x,.int y,.int z]) v1 (N4 (g:=λi j=>i-j) v0 A6) rfl rfl) (A1 (C9 (i:=2) (d':=.int z) (ds:=[.int x,.int y,.int z]) v1 v0 rfl rfl) A5)))
 exact bF3 U rfl
theorem cM5 (T:Tx K mg a):FnOk P w K mg base CX0 2 a.W5 a.X2 ["ring"] (spV K cO3):=by
 have j := @eG7 P w K mg base a T
 refine T.R8.F.ok aQ1 (Y7 (by rintro ds d ⟨_,_,_,e,_⟩;rw[e];rfl)) (λU A X s H vs Q E R h=>?_)
 obtain⟨ds,S,d,J,r,⟨l,Y,N,rfl,rfl⟩,q⟩:=h;refine⟨_,(A7 (B7 (pcl j R T.aZ8 (A0 (pv 0) (A0 (C0 (dC3 K rfl) (by rfl) T.cZ4 boot_min (A0 (pv 0) A2)) A2))))),M0 J r ?_ q⟩
 exact E9 (C3 (A1 v0 (A1 (eN6 (l:=l) (M:=mnI l) (A1 v0 A5) (aD6 Y)) A5)) ⟨l,mnI l,(aD6 Y).1,N,rfl,rfl⟩) rfl
def eG1 (ds:AF)(d:PyData):Prop:=∃l:AC,l≠[]/\l.length<=10000/\ds=[tN l]/\d=tN (TT.B5 l)
theorem dD7 (T:Tx K mg a):FnOk P w K mg base CX0 2 a.W5 a.X2 ["ring"] (spV K eG1):=
 (cM5 T).imp λ_ _ _ _ ⟨ds,S,d,j,r,⟨l,h,s,e,e'⟩,q⟩=>⟨ds,S,d,j,r,⟨cL l,by unfold cL;simpa using h,by unfold cL;simpa using s,by rw[e,aI1];rfl,by rw[e',aP3,aI1];rfl⟩,q⟩
theorem cK6 (T:Tx K mg a):FnOk P w K mg base CX0 1 a.bP8 a.bL0 ["turn", "place"] (spV K eP8):=by
 refine T.aS2.F.ok cG1 (Y7 λds d ⟨_,_,_,_,e,_⟩=>by rw[e];rfl) (λU A Y s H vs Q E N h=>?_)
 obtain⟨ds,S,d,J,r,⟨l,x,X,M,rfl,rfl⟩,q⟩:=h;refine⟨_,(A7 (B7 (B4 (ixK K) (pv 0) (B1 S2 (S7 PySem.F.plainAttrs_tuple PySem.F.slot_tuple_index PySem.F.type_tuple_index (aC8 K) (pv 0) (A0 (pv 1) A2)) A4) (λ_ _=>rfl)))),M0 J r ?_ q⟩
 have h:=aK7 (K:=K) (m:=false) (ρ:=sl0 ["turn", "place"].length [tI (l.map λ(x:Nat)=>(x:Int)),.int (x:Int)]) (ta:=C7 0) (tb:=C7 1) (k:=(x:Int)) v0 v1 (Aa8.mpr ⟨x,X,rfl⟩)
 rw[aC1 x l,<- aI1]at h;exact E9 (C9 (ds:=nI l) v0 (N4 (g:=λi j=>i-j) h A6) rfl (dG6 X)) rfl
theorem dP4 (T:Tx K mg a):FnOk P w K mg base CX0 2 a.aX1 a.aX6 ["turns", "p", "q"] (spV K eQ2):=by
 have X := @cK6 P w K mg base a T
 refine T.aY9.F.ok P3 (Y7 λds d ⟨_,_,_,_,_,_,_,e,_⟩=>by rw[e];rfl) (λcdv A N s H vs Q E hr h=>?_)
 obtain⟨ds,S,d,hS,r,⟨m,dr,tr,p,Y,U,J,rfl,rfl⟩,q⟩:=h;refine⟨_,(A3 (psS 3 P3 (D6 (A0 (pv 1) A2)))
   (A3 (psS 4 P3 (pv 1))
   (A3 (psS 5 P3 (pv 2))
   (A7 (bL8 Ao (y7 X4) (A3 (psS 6 P3 (pcl X hr T.aS2 (A0 (B4 (ixK K) (pv 0) (pv 5) (λ_ _=>rfl)) (A0 (pv 4) A2))))
   (A3 (L6 (PW.pt (bE8 (B9 aC7 (pv 5) (pv 1) (D8 _)) (bC3 (B9 aC7 (pv 6) (pv 2) (D8 _))))) (A7 (B7 (K5 (cR3 K) (by rfl) T.S5 boot_tuple (A0 (pv 3) A2)))) E1)
   (A3 (L8 (S7 Ab1 Ag Af K7 (pv 3) (A0 (pv 5) A2)))
   (A3 (psS 4 P3 (pv 5))
   (A7 (psS 5 P3 (pv 6)))))))))))),M0 hS r ?_ q⟩
 have G:=U.good
 obtain⟨n1,n2,n3⟩:=G.th_ne J;obtain⟨m1,R⟩:=G.th_mem J;have r1:=G.th_rot J;have r2:=G.th_rot2 J;have B:=G.sym J;have s2:=G.sym m1;have s3:=G.sym R;have lp:=U.lt J;have lq:=U.lt B;have lt:=U.lt R;generalize ht:TT.th (TT.trn dr) p Y=t at *;refine A8 (N2 (G3 (A1 (B0 rfl) A5)) ?_ (show 3<7 by decide))
 refine A8 (E5 v1 ?_);refine A8 (E5 v2 ?_);refine cC6 (λk ρ=>∃M,M.nb=true/\((k=3/\ρ=[vD dr,vI (p:Int),vI (Y:Int),.own (nI [p]),vI (p:Int),vI (Y:Int),M])\/(k=2/\ρ=[vD dr,vI (p:Int),vI (Y:Int),.own (nI [p,Y]),vI (Y:Int),vI (t:Int),M])\/(k=1/\ρ=[vD dr,vI (p:Int),vI (Y:Int),.own (nI [p,Y,t]),vI (t:Int),vI (p:Int),M]))) ⟨3,.no,rfl,.inl ⟨rfl,rfl⟩⟩ ?_
 rintro k ρ' ⟨M,b6,⟨rfl,rfl⟩ | ⟨rfl,rfl⟩ | ⟨rfl,rfl⟩⟩
 .refine⟨true,t_b aT7,?_⟩;rw[Ac rfl];refine A8 (E5 (d:=.int (t:Int)) (C3 (A1 (C9 (ds:=dr.map tN) v0 v5 rfl (U.at_ lq)) (A1 v4 A5)) ⟨TT.trn dr Y,p,B,by have:=U.tle Y;lia,rfl,by rw[show TT.prd (TT.trn dr Y) p=t from ht]⟩) ?_)
  show W K _ [vD dr,vI (p:Int),vI (Y:Int),.own (nI [p]),vI (p:Int),vI (Y:Int),vI (t:Int)] _
  refine A8 (K9 (aQ2 (C1 (l7 (i:=(Y:Int)) (j:=(p:Int)) v5 v1)) λh=>(C1 (l7 (i:=(t:Int)) (j:=(Y:Int)) v6 v2))) (λh=>?_) (λh=>E2 ?_))
  .exfalso;simp at h;lia
  refine A8 (V2 (d:=.int (Y:Int)) rfl v5 (by simp[nI];unfold sizeLine;lia) ?_)
  show W K _ [vD dr,vI (p:Int),vI (Y:Int),.own (nI ([p]++[Y])),vI (p:Int),vI (Y:Int),vI (t:Int)] _
  refine A8 (E5 v5 ?_);refine E5 v6 ⟨2,by lia,vI (t:Int),rfl,?_⟩
  exact .inr (.inl ⟨rfl,rfl⟩)
 .refine⟨true,t_b aT7,?_⟩;rw[Ac rfl];refine A8 (E5 (d:=.int (p:Int)) (C3 (A1 (C9 (ds:=dr.map tN) v0 v5 rfl (U.at_ lt)) (A1 v4 A5)) ⟨TT.trn dr t,Y,s2,by have:=U.tle t;lia,rfl,by rw[show TT.prd (TT.trn dr t) Y=p from r1]⟩) ?_)
  show W K _ [vD dr,vI (p:Int),vI (Y:Int),.own (nI [p,Y]),vI (Y:Int),vI (t:Int),vI (p:Int)] _
  refine A8 (K9 (aQ2 (C1 (l7 (i:=(t:Int)) (j:=(p:Int)) v5 v1)) λh=>(C1 (l7 (i:=(p:Int)) (j:=(Y:Int)) v6 v2))) (λh=>?_) (λh=>E2 ?_))
  .exfalso;simp at h;lia
  refine A8 (V2 (d:=.int (t:Int)) rfl v5 (by simp[nI];unfold sizeLine;lia) ?_)
  show W K _ [vD dr,vI (p:Int),vI (Y:Int),.own (nI ([p,Y]++[t])),vI (Y:Int),vI (t:Int),vI (p:Int)] _
  refine A8 (E5 v5 ?_);refine E5 v6 ⟨1,by lia,vI (p:Int),rfl,?_⟩
  exact .inr (.inr ⟨rfl,rfl⟩)
 .refine⟨true,t_b aT7,?_⟩;rw[Ac rfl];refine A8 (E5 (d:=.int (Y:Int)) (C3 (A1 (C9 (ds:=dr.map tN) v0 v5 rfl (U.at_ lp)) (A1 v4 A5)) ⟨TT.trn dr p,t,s3,by have:=U.tle p;lia,rfl,by rw[show TT.prd (TT.trn dr p) t=Y from r2]⟩) ?_)
  show W K _ [vD dr,vI (p:Int),vI (Y:Int),.own (nI [p,Y,t]),vI (t:Int),vI (p:Int),vI (Y:Int)] _
  refine A8 (K9 (aQ2 (C1 (l7 (i:=(p:Int)) (j:=(p:Int)) v5 v1)) λh=>(C1 (l7 (i:=(Y:Int)) (j:=(Y:Int)) v6 v2))) (λh=>E9 (Y8 (ds:=nI [p,Y,t]) (A1 (P6 rfl) A5) (L9 _)) rfl) (λh=>?_))
  exfalso;simp at h
end
theorem N9:B8 ["turns", "seen", "rounds", "p", "turn", "q", "corners", "way"] ["turns"] (A9 aF0):={}
def cI (x:Nat×Nat):Int×Int:=((x.1:Int),(x.2:Int))
def bR5 (kvs:List (AD×PyData))(ws:List (Nat×Nat)):List (AD×PyData):=ws.foldl (λa w=>aT3 a [(w.1:Int),(w.2:Int)] (.bool true)) kvs
theorem cG5:∀(ws:List (Nat×Nat)) (kvs:List (AD×PyData)) (x y:Nat),(bR5 kvs ws).any (λz=>decide (z.1=[(x:Int),(y:Int)]))=(kvs.any (λz=>decide (z.1=[(x:Int),(y:Int)]))||decide ((x,y)∈ws))
 | [],kvs,x,y=>by simp[bR5]
 | v::ws,kvs,x,y=>by
  have ih:=cG5 ws (aT3 kvs [(v.1:Int),(v.2:Int)] (.bool true)) x y
  show(bR5 (aT3 kvs [(v.1:Int),(v.2:Int)] (.bool true)) ws).any _=_
  rw[ih,dQ0,Bool.or_assoc]
  congr 1
  rw[<- Bool.decide_or];refine Dt.mpr ?_;rw[Aa1];refine or_congr ⟨λh=>?_,λh=>?_⟩ Iff.rfl
  .simp only[Ax,and_true]at h;exact Prod.ext (by show x=v.1;lia) (by show y=v.2;lia)
  .rw[<- h]
theorem bR0:∀(ws:List (Nat×Nat)) (kvs:List (AD×PyData)),(bR5 kvs ws).length<=kvs.length+ws.length
 | [],kvs=>by simp[bR5]
 | v::ws,kvs=>by
  have ih:=bR0 ws (aT3 kvs [(v.1:Int),(v.2:Int)] (.bool true))
  have:=dF5 kvs [(v.1:Int),(v.2:Int)] (.bool true)
  show(bR5 (aT3 kvs [(v.1:Int),(v.2:Int)] (.bool true)) ws).length<=_
  rw[Av];lia
def pre (r:Nat->AC)(i j:Nat):List (Nat×Nat):=TT.gps r i++((r i).take j).map λq=>(i,q)
theorem cV6 (r:Nat->AC)(i:Nat):pre r i 0=TT.gps r i:=by simp[pre]
theorem eC6 (r:Nat->AC)(h:(r i)[j]? = some q):pre r i (j+1)=pre r i j++[(i,q)]:=by
 unfold pre;rw[List.take_succ,h];simp
theorem bK8 (r:Nat->AC)(i:Nat):pre r i (r i).length=TT.gps r (i+1):=by
 unfold pre TT.gps;rw[Dc,Bh];simp
theorem mem_gps:x∈TT.gps r n↔x.1<n/\x.2∈r x.1:=by
 unfold TT.gps;simp only[List.mem_flatten,Aa8,Ab5];constructor
 .rintro⟨l,⟨p,hp,rfl⟩,w⟩;obtain⟨q,e,rfl⟩:=Aa8.mp w;exact⟨hp,e⟩
 .intro h;exact⟨_,⟨x.1,h.1,rfl⟩,Aa8.mpr ⟨x.2,h.2,rfl⟩⟩
def W6 (r:Nat->AC)(x:Nat×Nat):AC:=[x.1,x.2,TT.th r x.1 x.2]
def KS (r:Nat->AC)(kvs:List (AD×PyData))(ps:List (Nat×Nat)):Prop:=
 ∀x y:Nat,y∈r x->(kvs.any (λz=>decide (z.1=[(x:Int),(y:Int)]))=true↔∃z∈ps,TT.low r z=true/\TT.lnd r x y=W6 r z)
theorem bC1 (h:TT.low r z=true):TT.lnd r z.1 z.2=W6 r z:=by
 unfold TT.low at h;simp only[Ap,Ak]at h;unfold TT.lnd TT.nrm W6;rw[Ac h]
theorem dR1 (h:W6 r x=W6 r y):x=y:=by
 unfold W6 at h;simp only[Ax]at h;exact Prod.ext h.1 h.2.1
theorem eI2 {n:Nat}{r:Nat->AC}(G:TT.Good n r){kvs:List (AD×PyData)}{i j q:Nat}(h:(r i)[j]? = some q)(ks:KS r kvs (pre r i j)):kvs.any (λz=>decide (z.1=[(i:Int),(q:Int)])) = !TT.low r (i,q):=by
 have s:q∈r i:=Bb h
 have k:=ks i q s
 cases Y:TT.low r (i,q) with
 | true=>
  rw[Bool.not_true,Bool.eq_false_iff];intro z;obtain⟨z,hz,h1,w⟩:=k.mp z
  have:z=(i,q):=(dR1 ((bC1 Y).symm.trans w)).symm
  subst this;unfold pre at hz;rcases Aa0.mp hz with hz | hz
  .have:=(mem_gps.mp hz).1;simp at this
  .obtain⟨P,U,e⟩:=Aa8.mp hz;have R:P=q:=congrArg Prod.snd e;subst R;obtain⟨J,X,e'⟩:=List.getElem_of_mem U;have l1:J<j:=by simp at X;lia
   have Q:j<(r i).length:=(Ab0.mp h).1
   rw[List.getElem_take]at e'
   have:=TT.eF9 (G.nd i) (j:=J) (k:=j) (by lia) Q (by
    unfold TT.gi;rw[Ac0,Ac0,h,Aa2 (by lia),e'])
   lia
 | false=>
  rw[Bool.not_false];refine k.mpr ?_;obtain⟨a,b,c⟩:=G.th_ne s;obtain⟨F,B⟩:=G.th_mem s;have M:=G.th_rot s;have N:=G.th_rot2 s;have Y:¬(i<q/\i<TT.th r i q):=λz=>by
   have:TT.low r (i,q)=true:=by simp[TT.low,z]
   rw[Y]at this;cases this
  unfold TT.lnd TT.nrm W6;rw[Ab Y];by_cases w:q<TT.th r i q/\q<i
  .rw[Ac w];exact⟨(q,TT.th r i q),Bo _ (mem_gps.mpr ⟨w.2,F⟩),by simp[TT.low,M,w],by simp[M]⟩
  .rw[Ab w];exact⟨(TT.th r i q,i),Bo _ (mem_gps.mpr ⟨by show TT.th r i q<i;lia,B⟩),by simp[TT.low,N];lia,by simp[N]⟩
theorem eH3 (ks:KS r kvs ps)(h:TT.low r x=false):KS r kvs (ps++[x]):=λa b w=>by
 rw[ks a b w];constructor
 .rintro⟨z,hz,k⟩;exact⟨z,Bo _ hz,k⟩
 .rintro⟨z,hz,h1,e⟩;rcases Aa0.mp hz with hz | hz
  .exact⟨z,hz,h1,e⟩
  .rw[Ad8.mp hz,h]at h1;cases h1
theorem eM4 (G:TT.Good n r)(s:x.2∈r x.1)(ks:KS r kvs ps)(h:TT.low r x=true):KS r (bR5 kvs (TT.wys (W6 r x))) (ps++[x]):=λa b Y=>by
 rw[cG5,Dn,ks a b Y,decide_eq_true_iff,<- bC1 h];have w:(a,b)∈TT.wys (TT.lnd r x.1 x.2)↔TT.lnd r a b=TT.lnd r x.1 x.2:=⟨λz=>(G.wys_back s z).2,λz=>by
  rw[G.wys_lnd s];rcases G.lnd_eq s Y z.symm with⟨h1,j⟩ | ⟨h1,j⟩ | ⟨h1,j⟩
  .exact .inl (by rw[h1,j])
  .exact .inr (.inl (by rw[h1,j]))
  .exact .inr (.inr (by rw[h1,j]))⟩
 rw[w];constructor
 .rintro (⟨z,hz,k⟩ | e)
  .exact⟨z,Bo _ hz,k⟩
  .exact⟨x,by simp,h,e.trans (bC1 h)⟩
 .rintro⟨z,hz,h1,j⟩;rcases Aa0.mp hz with hz | hz
  .exact .inl ⟨z,hz,h1,j⟩
  .rw[Ad8.mp hz]at j;exact .inr (j.trans (bC1 h).symm)
def eE0 (ds es:AF):Prop:=∃(m:Nat) (dr tr:AA),Dw m dr tr/\ds=[tD dr]/\es=(TT.rds (TT.trn dr) (m+3)).map tN
theorem Dw.plen (h:Dw m dr tr):∀i,(TT.gps (TT.trn dr) i).length<=10*i
 | 0=>by simp[TT.gps]
 | i+1=>by
  have:=h.plen i
  have:=h.tle i
  rw[<- bK8];unfold pre;rw[Ab7,Aa3,Dc];lia
section
variable {P:Program}{w:World}{K:Frag}{mg:Str->Option Value}{base:Heap}{a:Ad}
theorem dB8 (T:Tx K mg a):FnOk P w K mg base CX0 3 a.aV5 a.aX3 ["turns"] (spL K eE0):=by
 have U := @dP4 P w K mg base a T
 have J := @dZ0 P w K mg base a T
 refine T.aV8.F.ok N9 (cP0 λds d ⟨_,_,_,_,e,_⟩=>by rw[e];rfl) (λcdv A outer s H vs Q E hr h=>?_)
 obtain⟨ds,S,es,hS,r,⟨m,dr,tr,dw,rfl,rfl⟩,q⟩:=h;refine⟨_,(A3 (psS 1 N9 dC4)
   (A3 (psS 2 N9 (D6 A2))
   (A3 (S4 Ao rfl (cJ3 K rfl T.aB0 (A0 (pv 0) A2)) (cD4 (n:=2) rfl (a9 (pgN 3 N9) (a9 (pgN 4 N9) bJ8))) (A7 (S4 Ao rfl (aN4 (pv 4)) (pgN 5 N9) (A7 (L6 (B9 (cK1 K hr) (H9 (A0 (pv 3) (A0 (pv 5) A2))) (pv 1) rfl) (A3 (psS 6 N9 (pcl U hr T.aY9 (A0 (pv 0) (A0 (pv 3) (A0 (pv 5) A2)))))
   (A3 (S4 Ao rfl (aA4 (pcl J hr T.aW9 (A0 (pv 6) A2))) (pgN 7 N9) (A7 (dA0 K hr (pv 1) (pv 7) X4)))
   (A7 (L8 (S7 Ab1 Ag Af K7 (pv 2) (A0 (pv 6) A2)))))) E1)))))
   (A7 (B7 (pv 2)))))),aS3 hS r ?_ q⟩
 have G:=dw.good
 have m7:=dw.m7
 have hdl:=dw.len
 refine A8 (cR7 cO9 ?_ (show 1<8 by decide))
 refine A8 (N2 (G3 A5) ?_ (show 2<8 by decide))
 refine A8 (Y5 (cW6 (ds:=dr.map tN) (A1 (B0 rfl) A5)) (λi ρ=>∃kvs x3 x4 B N X,(x3.nb=true/\x4.nb=true/\B.nb=true/\N.nb=true/\X.nb=true)/\KS (TT.trn dr) kvs (TT.gps (TT.trn dr) i)/\kvs.length<=3*(TT.gps (TT.trn dr) i).length/\ρ=[vD dr,.tr (.dic kvs),.own (((((TT.gps (TT.trn dr) i).filter (TT.low (TT.trn dr))).map (W6 (TT.trn dr)))).map tN),x3,x4,B,N,X]) ⟨[],.no,.no,.no,.no,.no,⟨rfl,rfl,rfl,rfl,rfl⟩,λx y _=>by simp[TT.gps],by simp,rfl⟩ ?_ ?_)
 .rintro i d _ hd ⟨kvs,x3,x4,B,N,X,⟨b3,b4,b5,b6,b7⟩,M,hkl,rfl⟩;obtain⟨y,hy,rfl⟩:=bO1 hd;rw[Aa9]at hy;obtain⟨row,h1,rfl⟩:=Bx.mp hy;have hi:i<dr.length:=(Ab0.mp h1).1;have er:TT.trn dr i=row:=by unfold TT.trn;rw[h1];rfl
  have hp:=dw.plen i
  refine⟨_,cW3 (t4 F8 (t4 F8 bY3)),?_⟩;rw[<- er];show W K _ [vD dr,.tr (.dic kvs),.own (((((TT.gps (TT.trn dr) i).filter (TT.low (TT.trn dr))).map (W6 (TT.trn dr)))).map tN),vI (i:Int),.val (tN (TT.trn dr i)),B,N,X] _;refine Y5 (bI8 (ds:=nI (TT.trn dr i)) v4) (λj ρ=>∃kvs B N X,(B.nb=true/\N.nb=true/\X.nb=true)/\KS (TT.trn dr) kvs (pre (TT.trn dr) i j)/\kvs.length<=3*(pre (TT.trn dr) i j).length/\ρ=[vD dr,.tr (.dic kvs),.own (((((pre (TT.trn dr) i j).filter (TT.low (TT.trn dr))).map (W6 (TT.trn dr)))).map tN),vI (i:Int),.val (tN (TT.trn dr i)),B,N,X]) ⟨kvs,B,N,X,⟨b5,b6,b7⟩,by rw[cV6];exact M,by rw[cV6];exact hkl,by rw[cV6]⟩ ?_ ?_
  .rintro j d _ hd ⟨kvs,B,N,X,⟨b5,b6,b7⟩,M,hkl,rfl⟩;unfold nI at hd;rw[Aa9]at hd;obtain⟨Y,hq',rfl⟩:=Bx.mp hd;have hq:Y∈TT.trn dr i:=Bb hq';have hj:j<(TT.trn dr i).length:=(Ab0.mp hq').1;have htl:=dw.tle i;have lowq:=eI2 G hq' M;have R:=eC6 (TT.trn dr) hq';have hpl:(pre (TT.trn dr) i j).length<=110:=by
    unfold pre;rw[Ab7,Aa3,Ad1];lia
   refine⟨_,F8,?_⟩;generalize hF:((pre (TT.trn dr) i j).filter (TT.low (TT.trn dr))).map (W6 (TT.trn dr))=F;have hFl:F.length<=110:=by rw[<- hF,Aa3];exact Bd (List.length_filter_le _ _) hpl
   show W K _ [vD dr,.tr (.dic kvs),.own (F.map tN),vI (i:Int),.val (tN (TT.trn dr i)),vI (Y:Int),N,X] _
   have tst:=dZ7 (K:=K) (m:=false) (neg:=true) (i:=1) (kvs:=kvs) (ks:=[(i:Int),(Y:Int)]) (ρ:=[vD dr,.tr (.dic kvs),.own (F.map tN),vI (i:Int),.val (tN (TT.trn dr i)),vI (Y:Int),N,X]) (N3 (A1 v3 (A1 v5 A5))) rfl
   rw[lowq]at tst;have e:(true ^^ !TT.low (TT.trn dr) (i,Y))=TT.low (TT.trn dr) (i,Y):=by cases TT.low (TT.trn dr) (i,Y) <;> rfl
   rw[e]at tst;refine K9 (C1 tst) (λhl=>?_) (λhl=>E2 ⟨kvs,vI (Y:Int),N,X,⟨rfl,b6,b7⟩,by rw[R];exact eH3 M hl,by rw[R,Ab7];lia,by rw[R,Cu];simp[hl,hF]⟩)
   refine A8 (E5 (d:=tN (W6 (TT.trn dr) (i,Y))) (C3 (A1 v0 (A1 v3 (A1 v5 A5))) ⟨m,dr,tr,i,Y,dw,hq,rfl,rfl⟩) ?_);show W K _ [vD dr,.tr (.dic kvs),.own (F.map tN),vI (i:Int),.val (tN (TT.trn dr i)),vI (Y:Int),.val (tN (W6 (TT.trn dr) (i,Y))),X] _;have hw:(wys (i:Int) (Y:Int) (TT.th (TT.trn dr) i Y:Int)).map pD=(TT.wys (W6 (TT.trn dr) (i,Y))).map λx=>pD (cI x):=rfl
   refine A8 (Y5 (aN3 (ds:=(TT.wys (W6 (TT.trn dr) (i,Y))).map λx=>pD (cI x)) (EF.e' (s9 (A1 v6 A5) ⟨(i:Int),(Y:Int),(TT.th (TT.trn dr) i Y:Int),rfl,hw.symm⟩))) (λl ρ=>∃X,X.nb=true/\ρ=[vD dr,.tr (.dic (bR5 kvs ((TT.wys (W6 (TT.trn dr) (i,Y))).take l))),.own (F.map tN),vI (i:Int),.val (tN (TT.trn dr i)),vI (Y:Int),.val (tN (W6 (TT.trn dr) (i,Y))),X]) ⟨X,b7,rfl⟩ ?_ ?_)
   .rintro l d _ hd ⟨X,b7,rfl⟩;rw[Aa9]at hd;obtain⟨v,hv,rfl⟩:=Bx.mp hd;have hvl:l<3:=(Ab0.mp hv).1;refine⟨_,F8,?_⟩;have hkp:=bR0 ((TT.wys (W6 (TT.trn dr) (i,Y))).take l) kvs;rw[Ad1]at hkp;refine dJ2 (ks:=[(v.1:Int),(v.2:Int)]) aT7 (i:=1) rfl (LV.E.imm (m:=false) v7) (by unfold sizeLine;lia) ⟨.val (pD (cI v)),rfl,?_⟩
    rw[List.take_succ,hv];unfold bR5;rw[List.foldl_append];rfl
   .rintro _ ⟨X,b7,rfl⟩;have hkp:=bR0 (TT.wys (W6 (TT.trn dr) (i,Y))) kvs;have e3:(TT.wys (W6 (TT.trn dr) (i,Y))).length=3:=rfl;rw[Aa3,Dc];refine V2 (d:=tN (W6 (TT.trn dr) (i,Y))) rfl v6 (by rw[Aa3];unfold sizeLine;lia) ⟨bR5 kvs (TT.wys (W6 (TT.trn dr) (i,Y))),vI (Y:Int),.val (tN (W6 (TT.trn dr) (i,Y))),X,⟨rfl,rfl,b7⟩,by rw[R];exact eM4 G hq M hl,by rw[R,Ab7,List.length_singleton];lia,?_⟩ (by cases X <;> first | rfl | cases b7)
    rw[R,Cu,Ad2,Ad2,hF]
    simp[hl]
  .rintro _ ⟨kvs,B,N,X,⟨b5,b6,b7⟩,M,hkl,rfl⟩;rw[G5]at *;rw[bK8]at M hkl;exact⟨kvs,_,_,B,N,X,⟨rfl,rfl,b5,b6,b7⟩,M,hkl,by rw[bK8]⟩
 rintro _ ⟨kvs,x3,x4,B,N,X,_,_,_,rfl⟩;rw[bK5,Aa3,hdl];exact dH7 rfl rfl
end
set_option maxHeartbeats 4000000
theorem dM6:B8 ["drawing"] ["drawing"] (A9 cB0):={}
theorem p5 (l:AC):tN l=tI (cL l):=aI1 l
theorem dI4 (L:AA):L.map tN=(L.map cL).map tI:=by rw[Ae2];exact Bk λl _=>p5 l
theorem cB9 (h:cL a=cL b):a=b:=by
 unfold cL at h
 have:=congrArg (List.map Int.toNat) h
 simpa[Ae2,Function.comp_def]using this
theorem aS6 (a b:AD):PyData.eqv (tI a) (tI b)=decide (a=b):=by
 unfold tI;rw[PyData.eqv];exact bQ6 (f:=PyData.int) cB8 a b
theorem dR2 (l:AC):Fit (tN l):=by rw[aI1];exact FitN.fit (V1 _)
def eD0 (ds es:AF):Prop:=∃(m:Nat) (dr tr:AA),Dw m dr tr/\ds=[tD dr]/\es=(cA1 ((TT.rds (TT.trn dr) (m+3)).map cL)).map tI
def dO0 (ds es:AF):Prop:=∃(m:Nat) (dr tr:AA),Dw m dr tr/\ds=[tD dr]/\es=((cA1 ((TT.rds (TT.trn dr) (m+3)).map cL)).filter λl=>decide (l≠[0,2,1])).map tI
def fIn (d:PyData):Option PyData:=if PyData.eqv d (tI [0,2,1]) then none else some d
theorem eA2 (L:AB):(L.map tI).filterMap fIn=(L.filter λl=>decide (l≠[0,2,1])).map tI:=by
 induction L with
 | nil=>rfl
 | cons l L w=>
  have e:fIn (tI l)=if l=[0,2,1] then none else some (tI l):=by
   unfold fIn;rw[aS6];by_cases h:l=[0,2,1] <;> simp[h]
  rw[Ac7,An,e,List.filter_cons];by_cases h:l=[0,2,1]
  .rw[Ac h,Ab (by simp[h])];exact w
  .rw[Ab h,Ac (by simp[h]),Ac7]
   show _::_=_::_
   rw[w]
section
variable {P:Program}{w:World}{K:Frag}{mg:Str->Option Value}{base:Heap}{a:Ad}
theorem dT2 (T:Tx K mg a):FnOk P w K mg base CX0 4 a.cT1 a.cW9 ["drawing"] (spL K eD0):=by
 have j := @dB8 P w K mg base a T
 refine T.cW0.F.ok dM6 (cP0 λds d ⟨_,_,_,_,e,_⟩=>by rw[e];rfl) (λR A U s H vs Q E hr h=>?_)
 obtain⟨ds,S,es,B,r,⟨m,dr,tr,Y,rfl,rfl⟩,q⟩:=h;refine⟨_,(A7 (B7 (C0 (aS9 K) (by rfl) T.aJ7 boot_sorted (A0 (pcl j hr T.aV8 (A0 (pv 0) A2)) A2)))),aS3 B r ?_ q⟩
 have M:=Y.good.rds_len
 have m7:=Y.m7
 have J:=s9 (K:=K) (pre:=eE0) (X:=E0) (ρ:=sl0 ["drawing"].length [tD dr]) (A1 v0 A5) ⟨m,dr,tr,Y,rfl,rfl⟩
 rw[dI4 (TT.rds (TT.trn dr) (m+3))]at J;refine bF3 (bO7 (ts:=(TT.rds (TT.trn dr) (m+3)).map cL) (A1 (EF.e' J) A5) (λt ht=>?_) (by rw[Aa3];lia) (U7 _) (bW5 _)) rfl
 obtain⟨l,M,rfl⟩:=Aa8.mp ht;obtain⟨p,N,_,rfl⟩:=Y.good.rds_mem.mp M;unfold TT.lnd;rcases TT.aP0 p N (TT.th (TT.trn dr) p N) with e | e | e <;> rw[e] <;> simp[cL]
end
end K09
namespace TT
def eX0 (k:Nat)(l:AC):AC:=l.drop k++l.take k
theorem cR9 (nd:l.Nodup):B5 (eX0 k l)=B5 l:=by
 have:=cN1 (u:=l.take k) (w:=l.drop k) (by rw[Ad3];exact nd)
 rw[Ad3]at this;exact this
theorem cG8 (nd:l.Nodup):B5 (B5 l)=B5 l:=cR9 (k:=l.idxOf (mn l)) nd
def L4 (l:AC)(b v:Nat):AC:=l.take (l.idxOf b+1)++v::l.drop (l.idxOf b+1)
theorem cA3 (h:b∉p):L4 (p++b::s) b v=p++b::v::s:=by
 unfold L4;have e:(p++b::s).idxOf b=p.length:=by
  rw[List.idxOf_append,Ab h,List.idxOf_cons_self,Nat.zero_add]
 rw[e];have w:(p++b::s).take (p.length+1)=p++[b]:=by
  rw[List.take_append,Dh (by lia)];simp
 have r:(p++b::s).drop (p.length+1)=s:=by
  rw[Dy,List.drop_of_length_le (by lia)];simp
 rw[w,r,Ad7];rfl
theorem aD3 (h:b∈l):∃p s,l=p++b::s/\b∉p:=by
 induction l with
 | nil=>cases h
 | cons x l w=>
  by_cases e:x=b
  .subst e;exact⟨[],l,rfl,by simp⟩
  .obtain⟨p,s,rfl,hp⟩:=w ((Aa1.mp h).resolve_left λz=>e z.symm)
   exact⟨x::p,s,rfl,λz=>(Aa1.mp z).elim (λz=>e z.symm) hp⟩
theorem aD4 (h:b∈l):x∈L4 l b v↔x=v\/x∈l:=by
 obtain⟨p,s,rfl,hp⟩:=aD3 h;rw[cA3 hp];simp only[Aa0,Aa1];constructor
 .rintro (z | z | z | z)
  .exact .inr (.inl z)
  .exact .inr (.inr (.inl z))
  .exact .inl z
  .exact .inr (.inr (.inr z))
 .rintro (z | z | z | z)
  .exact .inr (.inr (.inl z))
  .exact .inl z
  .exact .inr (.inl z)
  .exact .inr (.inr (.inr z))
theorem bT6 (h:b∈l):(L4 l b v).Perm (v::l):=by
 obtain⟨p,s,rfl,hp⟩:=aD3 h;rw[cA3 hp]
 have:=List.perm_middle (a:=v) (l₁:=p++[b]) (l₂:=s)
 simpa using this
theorem y9 (h:b∈l):(L4 l b v).length=l.length+1:=(bT6 h).length_eq
theorem cV7 (h:b∈l)(nd:l.Nodup)(e:v∉l):(L4 l b v).Nodup:=(bT6 h).nodup_iff.mpr (Aa5.mpr ⟨e,nd⟩)
theorem cZ0 (nd:l.Nodup)(B:b∈l)(F:2<=l.length)(U:adj l b c)(x y:Nat):adj (L4 l b v) x y↔(x=b/\y=v)\/(x=v/\y=c)\/(adj l x y/\x≠b):=by
 obtain⟨p,s,rfl,hp⟩:=aD3 B;rw[cA3 hp];rw[<- p8 p (b::s)]at U;rw[<- p8 p (b::v::s),<- p8 p (b::s)];have Y:((b::s)++p).Nodup:=(Cq.nodup_iff).mp nd;have j:2<=((b::s)++p).length:=by rw[Ab7,Nat.add_comm,<- Ab7];exact F
 rw[show(b::v::s)++p=b::v::(s++p) from rfl]
 rw[show(b::s)++p=b::(s++p) from rfl]at Y j U ⊢
 cases N:s++p with
 | nil=>rw[N]at j;simp at j
 | cons r t=>
  rw[N]at Y U;have X:∀u w,lin (r::t++[b]) u w->u≠b:=λu w z e=>by
   have:=T7 (u:=r::t) (c:=b) z
   rw[e]at this;exact(Aa5.mp Y).1 this
  have M:∀u w,adj (b::r::t) u w↔(u=b/\w=r)\/lin (r::t++[b]) u w:=λu w=>D1 b r (t++[b]) u w
  have Q:c=r:=by
   rcases (M b c).mp U with z | z
   .exact z.2
   .exact absurd rfl (X _ _ z)
  have R:adj (b::v::r::t) x y↔(x=b/\y=v)\/(x=v/\y=r)\/lin (r::t++[b]) x y:=(D1 b v (r::t++[b]) x y).trans (or_congr Iff.rfl (D1 v r (t++[b]) x y))
  rw[R,M,Q];refine or_congr Iff.rfl (or_congr Iff.rfl ⟨λz=>⟨.inr z,X _ _ z⟩,?_⟩)
  rintro⟨z | z,J⟩
  .exact absurd z.1 J
  .exact z
def bS5 (r:Nat->AC)(n a b c q:Nat):AC:=if q=n then [a,b,c] else if q=a then L4 (r a) b n else if q=b then L4 (r b) c n else if q=c then L4 (r c) a n else r q
section
variable {n:Nat}{r:Nat->AC}
theorem eO4 (a b c x y:Nat):adj [a,b,c] x y↔(x=a/\y=b)\/(x=b/\y=c)\/(x=c/\y=a):=by
 show lin [a,b,c,a] x y↔_
 rw[D1,D1,D1,p7]
 simp
end
end TT
set_option maxHeartbeats 1000000
namespace K09
open PySem L2 LV PyProof.Rows
theorem aR1:B8 ["turn", "place", "new", "at"] ["turn", "place", "new"] (A9 aH9):={}
theorem cM8:B8 ["turn", "gone"] ["turn", "gone"] (A9 bD5):={}
theorem bS1:B8 ["drawing", "changes"] ["drawing", "changes"] (A9 aG8):={}
theorem cK7:B8 ["self", "a", "b", "c"] ["self", "a", "b", "c"] (A9 aS7):={}
theorem cD7:B8 ["self", "p"] ["self", "p"] (A9 aK1):={}
theorem bN1:B8 ["drawing"] ["drawing"] (A9 aB7):={}
theorem bS6:B8 ["_law_found"] ["_law_found"] (A9 aE4):={}
theorem bU1 {K:Frag}{t:TE}{ρ:List Sl}{ds es:AF}(h:EF K t ρ ds)(e:ds=es):EF K t ρ es:=e▸h
theorem bG7 (h:d∈nI l):∃q∈l,d=.int (q:Int):=by
 unfold nI at h;obtain⟨q,e,rfl⟩:=Aa8.mp h;exact⟨q,e,rfl⟩
def toN:PyData->Nat
 | .int i=>i.toNat
 | _=>0
theorem cN0 (l:AC):(nI l).map toN=l:=by
 unfold nI;rw[Ae2];exact(Bk λx _=>by simp[toN]).trans (List.map_id l)
theorem dH4:∀{L R:AF},L.length=R.length->(∀(i:Nat) (x:PyData),L[i]? = some x->f x=R[i]?)->L.filterMap f=R
 | [],R,hl,_=>by cases R with | nil=>rfl | cons=>cases hl
 | x::L,R,hl,h=>by
  cases R with
  | nil=>cases hl
  | cons y R=>
   have h0:=h 0 x rfl
   rw[An,h0];show y::_=y::_;rw[dH4 (L:=L) (R:=R) (by simpa using hl) λi z hz=>h (i+1) z hz]
def eT6 (ds:AF)(d:PyData):Prop:=∃(l:AC) (b v:Nat),b∈l/\l.length<=1000/\ds=[tN l,.int (b:Int),.int (v:Int)]/\d=tN (TT.L4 l b v)
def eV7 (ds:AF)(d:PyData):Prop:=∃(l:AC) (v:Nat),l.length<=1000/\ds=[tN l,.int (v:Int)]/\d=tN (l.filter λx=>decide (x≠v))
def fWo (v:Nat):PyData->Option PyData
 | .int q=>if decide (q=(v:Int)) then none else some (.int q)
 | _=>none
theorem cA7 (v:Nat)(l:AC):(nI l).filterMap (fWo v)=nI (l.filter λx=>decide (x≠v)):=by
 unfold nI;induction l with
 | nil=>rfl
 | cons q l w=>
  rw[Ac7,An,List.filter_cons];by_cases e:q=v
  .subst e;rw[Ab (by simp)]
   have:fWo q (.int (q:Int))=none:=by unfold fWo;simp
   rw[this];exact w
  .rw[Ac (by simpa using e)]
   have:fWo v (.int (q:Int))=some (.int (q:Int)):=by
    show(if decide ((q:Int)=(v:Int)) then none else some (PyData.int (q:Int)))=_
    rw[Ab];simp only[Ak];lia
   rw[this];show _::_=_::_;rw[w]
def lk (kvs:List (Nat×AC))(p:Nat):Option AC:=(kvs.find? λz=>decide (z.1=p)).map (·.2)
def kI (kvs:List (Nat×AC)):List (Int×AD):=kvs.map λz=>((z.1:Int),cL z.2)
theorem eO0 (kvs:List (Nat×AC))(p:Nat):diA (kI kvs) (p:Int)=(lk kvs p).map cL:=by
 unfold diA lk kI;induction kvs with
 | nil=>rfl
 | cons z kvs r=>
  rw[Ac7,Aq,Aq];by_cases e:z.1=p
  .have w:decide (((z.1:Nat):Int)=(p:Int))=true:=by simp[e]
   simp only[w,Bc e];rfl
  .have w:decide (((z.1:Nat):Int)=(p:Int))=false:=by simp;lia
   simp only[w,Aw e];exact r
def wt (dr:AA)(kvs:List (Nat×AC)):AA:=dr.mapIdx λp l=>TT.B5 ((lk kvs p).getD l)
def eU9 (ds:AF)(d:PyData):Prop:=∃(dr:AA) (kvs:List (Nat×AC)),dr.length<=100/\(∀l∈dr,l≠[]/\l.length<=1000)/\(∀z∈kvs,z.2≠[]/\z.2.length<=1000)/\ds=[tD dr,diD (kI kvs)]/\d=.tuple ((wt dr kvs).map tN)
def fWt (kvs:List (Nat×AC)):PyData->Option PyData
 | .tuple [.int p,.tuple l]=>some (tN (TT.B5 ((lk kvs p.toNat).getD (l.map toN))))
 | _=>none
theorem dJ3 (kvs:List (Nat×AC))(p:Nat)(l:AC):fWt kvs (.tuple [.int (p:Int),tN l])=some (tN (TT.B5 ((lk kvs p).getD l))):=by
 show some (tN (TT.B5 ((lk kvs ((p:Int)).toNat).getD ((nI l).map toN))))=_
 rw[cN0,Ac8]
theorem dW1 (dr:AA)(kvs:List (Nat×AC)):(enD (dr.map tN)).filterMap (fWt kvs)=(wt dr kvs).map tN:=by
 refine dH4 (by rw[bK5];simp[wt]) λi x w=>?_
 obtain⟨y,e,rfl⟩:=bO1 w;rw[Aa9]at e;obtain⟨l,h1,rfl⟩:=Bx.mp e;rw[dJ3];unfold wt;rw[Aa9,List.getElem?_mapIdx,h1];rfl
theorem U9 (L:AA):N8 (L.map tN)=true:=aY0 aT0 L
def eU0 (ds:AF)(d:PyData):Prop:=∃i:Int,ds=[.int i]/\d=.bool true
section
variable {P:Program}{w:World}{K:Frag}{mg:Str->Option Value}{base:Heap}{a:Ad}
theorem dG5 (T:Tx K mg a):FnOk P w K mg base CX0 5 a.aQ4 a.aQ9 ["drawing"] (spL K dO0):=by
 have j := @dT2 P w K mg base a T
 refine T.aR4.F.ok bN1 (cP0 λds d ⟨_,_,_,_,e,_⟩=>by rw[e];rfl) (λB A U s H vs Q E R h=>?_)
 obtain⟨ds,S,es,hS,r,⟨m,dr,tr,Y,rfl,rfl⟩,q⟩:=h;obtain⟨J,gF,sF⟩:=T.aH6;refine⟨_,(A7 (B7 (U5 (T:=["land"]) (N':=["land"]) (is:=[]) rfl (.of rfl rfl rfl (by exact trivial) rfl rfl rfl (by exact trivial)) (aA4 (pcl j R T.cW0 (A0 (pv 0) A2))) (T3 (by decide)) λ_ _ _ _=>⟨(R5 (i:=0) (by decide +kernel:(["land"]:AH).Nodup) rfl (Or.inl rfl)),(aY4 (B9 (bN0 K R) (pv 0) (P8 (v:=.ref J) rfl gF rfl) (D8 _))),(pv 0)⟩))),aS3 hS r ?_ q⟩
 have hl:=Y.good.rds_len
 have m7:=Y.m7
 generalize N:cA1 ((TT.rds (TT.trn dr) (m+3)).map cL)=L;have hLl:L.length<=100:=by rw[<- N,(U7 _).length_eq,Aa3];lia
 have M:=U3 (K:=K) (m:=true) (ρ:=sl0 ["drawing"].length [tD dr]) (n:=1) (is:=[]) (g:=M8 0) (tt:=p6 (tOp (bR6 K true) (C7 0) (tC (.ref J)))) (te:=C7 0) fIn (aN3 (ds:=L.map tI) (EF.e' (s9 (pre:=eD0) (X:=E0) (A1 v0 A5) ⟨m,dr,tr,Y,rfl,by rw[N]⟩))) (by rw[Aa3];unfold sizeLine;lia) (λd hd=>by
  obtain⟨l,hl,rfl⟩:=Aa8.mp hd;refine⟨_,F8,?_⟩;have e:=cK0 (K:=K) (m:=false) (ρ:=(slC (sl0 ["drawing"].length [tD dr]) 1 []).set 0 (.val (tI l))) (d:=tI l) (d':=tI [0,2,1]) v0 (cH4 λH=>.tup (sF H) (.cons (.int _) (.cons (.int _) (.cons (.int _) .nil)))) (FitN.fit (V1 _)) (FitN.fit (V1 _))
  show match (if PyData.eqv (tI l) (tI [0,2,1]) then none else some (tI l)) with | none=>_ | some y=>_
  cases h:PyData.eqv (tI l) (tI [0,2,1]) with
  | true=>rw[h]at e;exact C1 e
  | false=>rw[h]at e;exact⟨C1 e,B0 rfl⟩)
 rw[eA2]at M;exact bF3 M rfl
theorem eB9 (T:Tx K mg a):FnOk P w K mg base CX0 1 a.aY1 a.bC8 ["turn", "place", "new"] (spV K eT6):=by
 refine T.U4.F.ok aR1 (Y7 (by rintro ds d ⟨_,_,_,_,_,e,_⟩;rw[e];rfl)) (λN A X s H vs Q E hr h=>?_)
 obtain⟨ds,S,d,R,r,⟨l,x,v,M,B,rfl,rfl⟩,q⟩:=h;refine⟨_,(A3 (psS 3 aR1 (B1 N6 (S7 PySem.F.plainAttrs_tuple PySem.F.slot_tuple_index PySem.F.type_tuple_index (aC8 K) (pv 0) (A0 (pv 1) A2)) A4))
   (A7 (B7 (B1 (aZ6 K) (B1 (aZ6 K) (P9 (cA0 K) (pv 0) Z1 (S0 (pv 3))) (H9 (A0 (pv 2) A2))) (P9 (cA0 K) (pv 0) (S0 (pv 3)) Z1))))),M0 R r ?_ q⟩
 have J:l.idxOf x<l.length:=Ac4 M
 refine A8 (E5 (d:=.int ((l.idxOf x+1:Nat):Int)) ?_ ?_)
 .have h:=aK7 (K:=K) (m:=false) (ρ:=sl0 ["turn", "place", "new", "at"].length [tI (l.map λ(x:Nat)=>(x:Int)),.int (x:Int),.int (v:Int)]) (ta:=C7 0) (tb:=C7 1) (k:=(x:Int)) v0 v1 (Aa8.mpr ⟨x,M,rfl⟩)
  rw[aC1 x l]at h;rw[aI1];exact N4 (g:=λi j=>i+j) h (A6 (i:=1))
 have Y:aD0 (nI l) none (some ((l.idxOf x+1:Nat):Int))=nI (l.take (l.idxOf x+1)):=by rw[aL2 (by rw[G5];lia),cX1]
 have U:aD0 (nI l) (some ((l.idxOf x+1:Nat):Int)) none=nI (l.drop (l.idxOf x+1)):=by rw[aO0 (by rw[G5];lia),cX3]
 refine E9 (cA8 (cA8 (aL7 (ds:=nI l) v0 j7 (U1 v3) (L9 l)) (N3 (A1 v2 A5)) (V6 _ _ (L9 l)) rfl ?_ ?_) (aL7 (ds:=nI l) v0 (U1 v3) j7 (L9 l)) ?_ (V6 _ _ (L9 l)) ?_ ?_) ?_
 .rw[Y];intro z;have:=congrArg List.length z;rw[G5,Ad1,List.length_nil]at this;lia
 .rw[Y,G5,Ad1];unfold sizeLine;simp;lia
 .rw[Y];show N8 (nI _++nI [v])=true;rw[<- o9];exact L9 _
 .intro z;have:=congrArg List.length z;simp at this
 .rw[Y,U,Ab7,G5,G5,Ad1,Bm];unfold sizeLine;simp;lia
 .show PyData.tuple _=tN _
  rw[Y,U];show PyData.tuple ((nI _++nI [v])++nI _)=_;rw[<- o9,<- o9,Ad7];rfl
theorem eB4 (T:Tx K mg a):FnOk P w K mg base CX0 1 a.bU6 a.bV9 ["turn", "gone"] (spV K eV7):=by
 refine T.aO3.F.ok cM8 (Y7 (by rintro ds d ⟨_,_,_,e,_⟩;rw[e];rfl)) (λX A Y s H vs Q E N h=>?_)
 obtain⟨ds,S,d,U,r,⟨l,v,M,rfl,rfl⟩,q⟩:=h;refine⟨_,(A7 (B7 (K5 (cR3 K) (by rfl) T.S5 boot_tuple (A0 (U5 (T:=["q"]) (N':=["q", "gone"]) (is:=[1]) rfl (.of rfl rfl rfl (by exact⟨rfl,trivial⟩) rfl rfl rfl (by exact⟨⟨_,rfl,by first | exact .inl rfl | exact .inr rfl,by first | exact .inl rfl | exact .inr rfl⟩,trivial⟩)) (aN4 (pv 0)) (T3 (by decide)) λ_ _ _ _=>⟨(R5 (i:=0) (by decide +kernel:(["q", "gone"]:AH).Nodup) rfl (Or.inl rfl)),(aY4 (B9 bH7 (pv 0) (pv 1) (D8 _))),(pv 0)⟩) A2)))),M0 U r ?_ q⟩
 refine E9 (Y8 (ds:=nI (l.filter λx=>decide (x≠v))) (A1 (EF.e' (bU1 (U3 (m:=true) (fWo v) (bI8 (ds:=nI l) v0) (by rw[G5];unfold sizeLine;lia) λd J=>?_) (cA7 v l))) A5) (L9 _)) rfl
 obtain⟨z,_,rfl⟩:=bG7 J;refine⟨_,F8,?_⟩;have j:=C1 (K:=K) (ρ:=[vI (z:Int),vI (v:Int)]) (aI3 v0 v1);show match (if decide ((z:Int)=(v:Int)) then none else some (PyData.int (z:Int))) with | none=>_ | some y=>_
 cases h:decide ((z:Int)=(v:Int)) with
 | true=>rw[h]at j;exact j
 | false=>rw[h]at j;exact⟨j,B0 (i:=0) rfl⟩
theorem eD1 (T:Tx K mg a):FnOk P w K mg base CX0 3 a.bB5 a.bD3 ["drawing", "changes"] (spV K eU9):=by
 have j := @dD7 P w K mg base a T
 refine T.aF7.F.ok bS1 (Y7 (by rintro ds d ⟨_,_,_,_,_,e,_⟩;rw[e];rfl)) (λB A U s H vs Q E N h=>?_)
 obtain⟨ds,S,d,hS,r,⟨dr,kvs,hl,h1,M,rfl,rfl⟩,q⟩:=h;refine⟨_,(A7 (B7 (K5 (cR3 K) (by rfl) T.S5 boot_tuple (A0 (U5 (T:=["p", "turn"]) (N':=["p", "turn", "changes"]) (is:=[1]) rfl (.of rfl rfl rfl (by exact⟨rfl,trivial⟩) rfl rfl rfl (by exact⟨⟨_,rfl,by first | exact .inl rfl | exact .inr rfl,by first | exact .inl rfl | exact .inr rfl⟩,trivial⟩)) (cJ3 K rfl T.aB0 (A0 (pv 0) A2)) (eY7 (by decide) (by decide)) λ_ _ _ _=>⟨(cD4 (n:=2) rfl (a9 (R5 (i:=0) (by decide +kernel:(["p", "turn", "changes"]:AH).Nodup) rfl (Or.inl rfl)) (a9 (R5 (i:=1) (by decide +kernel:(["p", "turn", "changes"]:AH).Nodup) rfl (Or.inl rfl)) bJ8))),i3,(pcl j N T.R8 (A0 (dO1 (eS9 N) (pv 2) (pv 0) (pv 1) ⟨rfl,rfl,rfl,rfl⟩) A2))⟩) A2)))),M0 hS r ?_ q⟩
 refine E9 (Y8 (ds:=(wt dr kvs).map tN) (A1 (EF.e' (bU1 (U3 (m:=true) (fWt kvs) (cW6 (ds:=dr.map tN) (A1 v0 A5)) (by rw[bK5,Aa3];unfold sizeLine;lia) λd hd=>?_) (dW1 dr kvs))) A5) (U9 _)) rfl
 obtain⟨i,hi⟩:=List.mem_iff_getElem?.mp hd;obtain⟨y,R,rfl⟩:=bO1 hi;rw[Aa9]at R;obtain⟨l,X,rfl⟩:=Bx.mp R;rw[dJ3];refine⟨_,cW3 (t4 F8 (t4 F8 bY3)),aU4,?_⟩;have Y:=h1 l (Bb X);have J:=eN2 (K:=K) (m:=true) (ρ:=[vI (i:Int),.val (tN l),.val (diD (kI kvs))]) (kvs:=kI kvs) (k:=(i:Int)) (is:=cL l) v2 v0 (by rw[<- p5];exact B0 (i:=1) rfl)
 have ee:(diA (kI kvs) (i:Int)).getD (cL l)=cL ((lk kvs i).getD l):=by rw[eO0];cases lk kvs i <;> rfl
 rw[ee,<- p5]at J;refine C3 (A1 J A5) ⟨_,?_,?_,rfl,rfl⟩
 .unfold lk;cases h:kvs.find? λz=>decide (z.1=i) with
  | none=>exact Y.1
  | some z=>exact(M z (List.mem_of_find?_eq_some h)).1
 .unfold lk;cases h:kvs.find? λz=>decide (z.1=i) with
  | none=>have:=Y.2;show l.length<=_;lia
  | some z=>have:=(M z (List.mem_of_find?_eq_some h)).2;show z.2.length<=_;lia
theorem dR8 (T:Tx K mg a):FnOk P w K mg base CX0 1 a.T8 a.j9 ["self", "a", "b", "c"] (dU7 a.D9 ["a", "b", "c"]):=by
 refine T.aF5.ok cK7 (by rintro vs H Q E ⟨x,dx,is,e,rfl,_⟩;simp[e]) (λY A r s H vs Q E U h=>?_)
 obtain⟨x,dx,is,e,rfl,X,q⟩:=h;obtain⟨i,j,k,rfl⟩:∃i j k,is=[i,j,k]:=by
  match is,e with
  | [i,j,k],_=>exact⟨i,j,k,rfl⟩
 refine⟨_,(A3 (bF9 (pv 0) (pv 1) rfl)
   (A3 (bF9 (pv 0) (pv 2) rfl)
   (A7 (bF9 (pv 0) (pv 3) rfl)))),?_⟩
 refine⟨.int i,rfl,.ref x,rfl,x,_,dx,[],rfl,X,T.P4,T.aZ7,by decide,⟨.int j,rfl,.ref x,rfl,x,_,dx,_,rfl,C4,T.P4,T.aZ2,(by show 1<1000;decide),⟨.int k,rfl,.ref x,rfl,x,_,dx,_,rfl,C4,T.P4,T.bC4,(by show 2<1000;decide),?_⟩⟩⟩
 show Q .non _
 rw[bK3,bK3];exact q
theorem dJ9 (T:Tx K mg a):FnOk P w K mg base CX0 1 a.Q9 a.Y0 ["self", "p"] (dU7 a.C8 ["p"]):=by
 refine T.aA9.ok cD7 (by rintro vs H Q E ⟨x,dx,is,e,rfl,_⟩;simp[e]) (λj A r s H vs Q E X h=>?_)
 obtain⟨x,dx,is,e,rfl,Y,q⟩:=h;obtain⟨i,rfl⟩:∃i,is=[i]:=by
  match is,e with
  | [i],_=>exact⟨i,rfl⟩
 refine⟨_,(A7 (bF9 (pv 0) (pv 1) rfl)),?_⟩;exact⟨.int i,rfl,.ref x,rfl,x,_,dx,[],rfl,Y,T.W0,T.aD9,by decide,q⟩
theorem eS6 (T:Tx K mg a):FnOk P w K mg base CX0 1 a.aU9 a.bB2 ["_law_found"] (spV K eU0):=by
 refine T.aV6.F.ok bS6 (Y7 (by rintro ds d ⟨_,e,_⟩;rw[e];rfl)) (λY A j s H vs Q E U h=>?_)
 obtain⟨ds,S,d,X,r,⟨x,rfl,rfl⟩,q⟩:=h;refine⟨_,(A7 (B7 (cQ2 (C0 (dM3 K) (by rfl) T.G9 boot_isinstance (A0 (pv 0) (A0 (bW8 rfl T.dH0 boot_int) A2))) (bZ9 (dF6 (C0 (dM3 K) (by rfl) T.G9 boot_isinstance (A0 (pv 0) (A0 (bW8 rfl T.cM7 boot_bool) A2)))))))),M0 X r ?_ q⟩
 exact E9 (dD9 (a:=true) (b:=true) (bT5 (d:=.int x) v0) λ_=>eC1 (a:=false) (bT5 (d:=.int x) v0)) rfl
end
end K09
namespace LV
open PySem PySem.Spec PyProof.Rows L2
section
variable {K:Frag}{B:Hp}{ρ ρ':List Sl}{m:Bool}{tA:TA}{ta:TE}{d:PyData}{ds:AF}{C:Addr}{mn:Str}{fs:List (Str×Int)}{pre:AF->PyData->Prop}{preX:AF->Addr->List (Str×PyData)->Prop}
theorem cT4 {EX:XK}(ho:E K true ta ρ (inD C fs))(U:fs.lookup mn=none)(X:A K true tA ρ ds)(hp:pre (inD C fs::ds) d):E K m (i6 C mn (spF K pre preX) [] EX ta tA) ρ d:=E.bor λS B σ H o I Q q=>ho S B σ H o I _ λx Y w r=>by
 obtain⟨a,dx,rfl,e⟩:=bJ5 (r.mono aJ1);refine⟨a,dx,_,rfl,e,by rw[aJ9,U];rfl,X S B σ Y o (I.grow w) _ λvs N j rs=>?_⟩
 exact⟨_,F1 ρ o S,((I.grow w).grow j).lists,.cons (r.mono (L7 j)) (by rw[Ba];exact rs),.inl ⟨d,hp,λv s M J=>q v s (L2.Same.tr w (L2.Same.tr j M)) J⟩⟩
theorem aD1 (ho:E K true ta ρ (inD C fs))(P:fs.lookup mn=none)(F:A K true tA ρ ds)
  (hz:(∃d,pre (inD C fs::ds) d/\R.nx (ρ.set i (.val d)))\/∃(CE:Addr) (gs:List (Str×PyData)),preX (inD C fs::ds) CE gs/\∀(H':Hp) (dd:AK) (vs:List (Str×V)),Same B H'->XdA H' vs dd->FdF K H' vs gs->EK (.ref CE) dd H') :
  WB K B (u8 (i6 C mn (spF K pre preX) [] EK ta tA) (M8 i)) ρ R:=λS D σ H o I s=>ho S B σ H o I _ λx J X r=>by
 obtain⟨a,j,rfl,e⟩:=bJ5 (r.mono aJ1);refine⟨a,j,_,rfl,e,by rw[aJ9,P];rfl,F S B σ J o (I.grow X) _ λvs H2 U rs=>?_⟩
 have w:=(I.grow X).grow U
 refine⟨_,F1 ρ o S,w.lists,.cons (r.mono (L7 U)) (by rw[Ba];exact rs),?_⟩
 rcases hz with⟨d,hp,hn⟩ | ⟨CE,gs,hp,hx⟩
 .exact .inl ⟨d,hp,λv H' Y r=>(F8 (K:=K) (m:=true) (i:=i) (ρ := ρ) (d:=d)).2 S B σ H' o (w.grow Y) v r _ λσ' M=>s.nx _ σ' H' o M hn⟩
 .exact .inr ⟨CE,gs,hp,λH' dd vs Y N Q=>hx H' dd vs (L2.Same.tr w.base Y) N Q⟩
end
end LV
namespace L2
open PySem PySem.Spec PyProof.Rows
section
variable {M:Model}{A:Around}{E:Dz}
variable {nm q nm' q':Str}{C N T N':Addr}{bs bm bs' bm':AG}{hdct hdct':Bool}{sn sn':AH}{sub sub':AG}{ab ab':Bool}{col col':Option Bool}{dd dd':AK}{k0 k1 k2 k3 k5 j0 j1 j2 j3 j5:Option Value}{newId newId':String}
theorem aB3 {h:Heap}{g:Array GenState}{d:Drawn}{t:Nat}{os:OsState}{e:Addr}{oe:Obj}{b:Bool}{Q:Bool->Shared->Prop}
  (X:h.get? C=some (excClassObj nm q C N bs bm hdct sn sub ab col dd k0 k1 k2 k3 k5 newId)) (Y:h.get? T=some (excClassObj nm' q' T N' bs' bm' hdct' sn' sub' ab' col' dd' j0 j1 j2 j3 j5 newId')) (U:h.get? e=some oe) (r:oe.cls=.ref C) (w:bm'.contains (.type "BaseException")=true)
  (s:(Value.ref C::bm).contains (.ref T)=b) (J:Q b ⟨h,g,d,t,os⟩):wpAny M A (excMatches (.ref e) (.ref T)) Q E ⟨h,g,d,t,os⟩:=by
 have j:(Value.ref T::bm').contains (.type "BaseException")=true:=by rw[List.contains_cons,w,Bool.or_true]
 have f:=tc_notTuple
 cases b <;> (
  unfold excMatches
  repeat (first | (with_reducible refine wpAny_loadPart_at U ?_;rw[r]) | with_reducible refine wpAny_loadPart_at Y ?_ | (with_reducible refine wpAny_isSubtype_exc Y ?_;rw[j]) | (with_reducible refine wpAny_isSubtype_exc X ?_;rw[s]) | wp_step)
  exact J)
end
theorem eG3 {K:Frag}{h:Heap}{C:Addr}{v u:Value}{bm:AG}{nm qn:Str}{N:Addr}{bs:AG}{hdct:Bool}{sn:AH}{sub:AG}{ab:Bool}{col:Option Bool}{dd:AK}{k0 k1 k2 k3 k5:Option Value}{newId:String}(X:K.In h)(e:h.get? C=some (excClassObj nm qn C N bs bm hdct sn sub ab col dd k0 k1 k2 k3 k5 newId))(q:subIn K C u=true)(n:subIn K C v=false):(Value.ref C::bm).contains v=false:=by
 unfold subIn at q n;split at q
 .rename_i ho;rw[ho]at n
  have:=X _ _ ho
  rw[e]at this;cases this;exact n
 .cases q
def dR9 (K:Frag)(T1 T2:Addr)(tb:XK->TS)(j:Nat)(t1 t2:TS):TS:=λD σ H=>
 tb (λcls d H1=>∃C,cls=.ref C/\cF2 K C/\((subIn K C (.ref T1)=true/\∀x,H1 x=none->t1 {nx:=λσ' H'=>D.nx (σ'.set j none) H',rt:=λ_ _=>False} (σ.set j (some (.ref x))) (upd H1 x (excD x C d)))\/(subIn K C (.ref T1)=false/\subIn K C (.ref T2)=true/\∀x,H1 x=none->t2 {nx:=λσ' H'=>D.nx (σ'.set j none) H',rt:=λ_ _=>False} (σ.set j (some (.ref x))) (upd H1 x (excD x C d))))) D σ H
section
theorem dJ0 (M:PBd X body tb)(hg:Gl X c1)(hm:X.mg c1=some (.ref T1))(hT1:cF2 X.K T1)(hg2:Gl X c2)(hm2:X.mg c2=some (.ref T2))(hT2:cF2 X.K T2)
  (hN:X.N.Nodup) (hj:X.N[j]? = some en) (hen:X.env.scope.names.lookup en=some .local) (Q:X.stack=X.env::X.outer) (hfr:X.env.frame=some X.env.locals) (hh1:∀e,PSs (X.markd e) (b1::s1') t1) (hh2':∀e,PSs (X.markd e) (b2::s2') t2) (hdb:(c1==("__debug__" : Str))=false:=by decide) (hdb2:(c2==("__debug__" : Str))=false:=by decide) :
  PS X (.Try body [.ExceptHandler (some (.Name c1 p1)) (some en) (b1::s1') q1,.ExceptHandler (some (.Name c2 p2)) (some en) (b2::s2') q2] [] [] pos) (dR9 X.K T1 T2 tb j t1 t2):=by
 refine⟨?_⟩;intro bA s σ H D I h;refine wpAny_Try_except (wpAny_mono (M.run bA s σ H D _ I h) (λf s1 q=>?_) (λe s1 hx=>?_))
 .cases f with
  | next=>exact wpAny_execs_nil q
  | ret v=>exact q
  | brk=>exact q
  | cont=>exact q
 obtain⟨s0,H0,I0,x,cls,H1,dd0,rfl,os,bare,un,hok,F,D0,C,rfl,hC,hz⟩:=hx;have ex:H1 x=none:=by obtain⟨_,_,_,_,_,_,_,_,n3,_⟩:=F;exact n3
 have n0:s0.heap.get? x=none:=by obtain⟨_,_,_,_,_,_,n1,_⟩:=F;exact n1
 have J1:Inv X bA σ H1 s1:=I0.call' os un hok bare (λb z=>absurd z (by simp))
 have fr:X.A.frames=some (X.env::X.outer):=by rw[<- Q];exact I0.ok.frames
 have stk:∀{s':Shared} {σ':St} {H':Hp},Inv X bA σ' H' s'->s'.heap.FunFrames X.base (X.env::X.outer):=λJ=>by rw[<- Q];exact J.stack
 rw[Q]at un;have fsn:∀b∈frs (X.env::X.outer),H1 b=none:=λb M=>J1.stkFree b (by rw[Q];exact M)
 refine cM9 (P:=X.prog) (w:=X.w) fr hfr (stk J1) F D0 (λb o e=>un.there b o e (by simp)) hok λh2 B hB mv F2 D2=>?_
 have un2:=dS1 un (λb M=>(hB b M).1) mv.k mv.s
 have hok2:=cR6 hok fsn (λb M=>(hB b M).2) mv.k
 have J2:Inv X bA σ H1 {s1 with heap:=h2}:=I0.call' (s':={s1 with heap:=h2}) os (by rw[Q];exact un2) hok2 bare (λb z=>absurd z (by simp))
 obtain⟨bm,N,nm,qn,bs,hdct,sn,sub,ab,col,dd,k0,k1,k2,k3,k5,o1,o4⟩:=hC _ J2.kIn;have hox:∃oe vs,h2.get? x=some oe/\oe.cls=.ref C/\oe.data=.fields vs:=by
  obtain⟨_,oe,vs,_,_,_,_,_,_,_,e1,e2,e3,_⟩:=F2;exact⟨oe,vs,e1,e2.1,e3⟩
 obtain⟨oe,vse,eo,eoc,eod⟩:=hox;have fin:∀{b0:Stmt} {U:List Stmt} {hpos:Pos} {th:TS},(∀e,PSs (X.markd e) (b0::U) th)->(∀x,H1 x=none->th {nx:=λσ' H'=>D.nx (σ'.set j none) H',rt:=λ_ _=>False} (σ.set j (some (.ref x))) (upd H1 x (excD x C dd0))) ->
   codeAny (model X.prog X.w) (X.A.mark (some (.ref x))) (.handlers (.ref x) [.ExceptHandler none (some en) (b0::U) hpos] X.env) (λr s₂=>match r with
     | .ok f=>wpAny (model X.prog X.w) X.A (do bindName X.env en .none;unbindBehindTheSuite X.env en hpos) (λ_ s₃=>SP X bA D f s₃) X.xe s₂
     | .error x=>cameBackBy (model X.prog X.w) X.A X.env X.xe x s₂) {s1 with heap:=h2}:=λ{b0 U hpos th} hh2 hth2=>by
  refine codeAny_handlers_suite_as ?_;refine cQ4 (P:=X.prog) (w:=X.w) (stk J2) F2 D2 (λb o e=>un2.there b o e (by simp)) hok2 λh3 B3 hB3 mv3 F3 D3=>?_
  have Y:=dS1 un2 (λb M=>(hB3 b M).1) mv3.k mv3.s
  have hok3:=cR6 hok2 fsn (λb M=>(hB3 b M).2) mv3.k
  obtain⟨oe',vse',eo',eoc',eod',edd'⟩:∃oe vs,h3.get? x=some oe/\oe.cls=.ref C/\oe.data=.fields vs/\oe.dict=dd0:=by
   obtain⟨_,oe,vs,_,_,_,_,_,_,_,e1,e2,e3,_⟩:=F3;obtain⟨o',q1,q2⟩:=D3;rw[e1]at q1;cases q1;exact⟨oe,vs,e1,e2.1,e3,q2⟩
  have un4:Un (frs (X.env::X.outer)) [] H0 (upd H1 x (excD x C dd0)) s0.heap h3:=⟨Y.keep,Y.slot,λb o e n hx=>by
   rw[B6 (λz=>by rw[z,n0]at e;cases e)];exact Y.free b o e n hx,Y.there,λb xs e=>by
   rw[B6 (λz=>by have:=Y.tups b xs e;rw[z,ex]at this;cases this)];exact Y.tups b xs e,λb o u e=>by
   rw[B6 (λz=>by have:=Y.frzs b o u e;rw[z,ex]at this;cases this)];exact Y.frzs b o u e,λb ps e=>by
   obtain⟨more,q⟩:=Y.tbls b ps e;exact⟨more,by rw[B6 (λz=>by rw[z,ex]at q;cases q)];exact q⟩⟩
  have hok4:HOk X.prog X.w (upd H1 x (excD x C dd0)) h3:=λb u e=>by
   by_cases M:b=x
   .subst M;rw[C4]at e;cases e;exact dW0 eo' eoc' eod' edd'
   .rw[B6 M]at e;exact(hok3 b u e).stay (λ_ _ _ q=>q) (λc q=>by rw[B6 (G7 q ex)];exact q) λc xs q=>by rw[B6 (G7 q ex)];exact q
  have J4:Inv X bA σ (upd H1 x (excD x C dd0)) {s1 with heap:=h3}:=I0.call' (s':={s1 with heap:=h3}) os (by rw[Q];exact un4) hok4 bare (λb z=>absurd z (by simp))
  refine aY5 (X:=X.markd (.ref x)) (v:=.ref x) (J4.markd (.ref x)) hN hj (.inl hen) rfl (λs4 J5=>?_) (.inr hen)
  refine wpAny_mono (hh2 (.ref x) bA s4 _ _ _ J5 (hth2 x ex)) (λf s5 q=>?_) λ_ _ z=>False.elim z
  cases f with
  | ret v=>obtain⟨_,_,_,_,_,z⟩:=q;exact False.elim z
  | brk=>obtain⟨_,_,_,z⟩:=q;exact False.elim z
  | cont=>obtain⟨_,_,_,z⟩:=q;exact False.elim z
  | next=>
   obtain⟨σ',H',J6,q⟩:=q;have J7:Inv X bA σ' H' s5:=J6.unmark I.ok;obtain⟨m,hn,hl⟩:=id J7.loc;exact wpAny_nameGoes_keeps hen hn (by rw[I.ok.kind];rfl) λh' v hns hsb=>⟨_,H',J7.unbind hN hj hn hl hns hsb,q⟩
 rcases hz with⟨R,hth⟩ | ⟨hno,R,hth⟩
 .refine wpAny_handleBy_cons (codeAny_handlers_test (Z5 (X:=X.markd (.ref x)) (J2.markd (.ref x)) hg hm ?_ hdb)) (by intro q;cases q)
  obtain⟨bm',N',nm',qn',bs',hdct',sn',sub',ab',col',dd',j0,j1,j2,j3,j5,o1',o4'⟩:=hT1 _ J2.kIn;exact aB3 o1 o1' eo eoc (o4'.hasType PySem.F.excBase_ValueError.hasBase) (bU0 J2.kIn o1 R) (fin hh1 hth)
 .refine wpAny_handleBy_cons (codeAny_handlers_test (Z5 (X:=X.markd (.ref x)) (J2.markd (.ref x)) hg hm ?_ hdb)) (by intro q;cases q)
  obtain⟨bm',N',nm',qn',bs',hdct',sn',sub',ab',col',dd',j0,j1,j2,j3,j5,o1',o4'⟩:=hT1 _ J2.kIn;refine aB3 o1 o1' eo eoc (o4'.hasType PySem.F.excBase_ValueError.hasBase) (eG3 J2.kIn o1 R hno) ?_;refine wpAny_handleBy_cons (codeAny_handlers_test (Z5 (X:=X.markd (.ref x)) (J2.markd (.ref x)) hg2 hm2 ?_ hdb2)) (by intro q;cases q)
  obtain⟨bm',N',nm',qn',bs',hdct',sn',sub',ab',col',dd',j0,j1,j2,j3,j5,o1',o4'⟩:=hT2 _ J2.kIn;exact aB3 o1 o1' eo eoc (o4'.hasType PySem.F.excBase_ValueError.hasBase) (bU0 J2.kIn o1 R) (fin hh2' hth)
end
end L2
namespace LV
open PySem PySem.Spec PyProof.Rows L2
end LV
namespace L2
open PySem PySem.Spec PyProof.Rows
section
def bP3 (a b:XK->TS):XK->TS:=λEX D σ H=>a EX D σ H\/b EX D σ H
theorem bJ3 (w:PBd X body ta)(r:PBd X body tb):PBd X body (bP3 ta tb):=⟨λe s σ H D EX I h=>h.elim (w.run e s σ H D EX I) (r.run e s σ H D EX I)⟩
end
section
variable {X:Cx}{k:Nat}{f C:Addr}{fd:FuncData}{ps:AH}{sp:Sp}{dvs:List V}{ds:AG}{m:Str}{apos pos:Pos}{o e:Expr}{es:AM}{ta:TE}{t:TA}{pl:Sem Bool}
theorem bG5 (R:X.N.Nodup)(hi:X.N[i]? = some y)(hy:Loc X.env.scope y)(ho:PE X.nox o ta)(c:Cls X.K C)(hm:bC0 X.K C m f)(F:FnOk X.prog X.w X.K X.mg X.base (CXd X.prog X.w) k f fd ps sp)(hr:Room k X.A)(P:Binds X.K fd ps ds)(hd:Vals dvs ds)(B:PA X.nox (e::es) t)
  (j:starEach (e::es) X.env=(false,eval e X.env)::starEach es X.env:=by rfl) (r:(backTo pos (starEach es X.env)).any (·.1)=false:=by rfl)
  (ht:eval (.Call (.Attribute o m apos) (e::es) [] pos) X.env=(do
   let ov <- eval o X.env
   standAt apos.atName
   let (f,first) <- holding [ov] (getMethod ov m pl)
   callWith pos f first (backTo pos (starEach (e::es) X.env)) (backToKw pos (keywordEach [] X.env))):=by rfl)
  (hs:swapsWith (.Call (.Attribute o m apos) (e::es) [] pos) (some (.Name y pos')) spos.line X.env=pure false:=by rfl) (hf:X.fn y=true\/X.env.scope.names.lookup y=some .local:=by first | exact .inl rfl | exact .inr rfl | assumption) :
  PBd X [.Assign [.Name y pos'] (.Call (.Attribute o m apos) (e::es) [] pos) spos] λEX=>u8 (i6 C m sp dvs EX ta t) (M8 i):=by
 refine⟨λM s σ H D EX I h=>?_⟩
 refine wpAny_execs_cons (wpAny_mono (wpAny_Assign_Name (Q:=λfl s'=>fl=.next/\SP X M D .next s') (wpAny_mono (bX1 ho c hm F hr P hd B j r ht I h) (λv s1 ⟨z,Y,U,r1,q1⟩=>?_) λ_ _ z=>z) hs) (λfl s1 q=>?_) λ_ _ z=>z)
 .exact aY5 U R hi hy r1 (λs2 J=>⟨rfl,_,Y,J,q1⟩) hf
 .obtain⟨rfl,q⟩:=q;exact wpAny_execs_nil q
end
end L2
namespace LV
open PySem PySem.Spec PyProof.Rows L2
def WX (K:Frag)(tb:XK->TS)(ρ:List Sl)(R:AE)(XP:Addr->List (Str×PyData)->Prop):Prop:=
 ∀(S:Addr->Prop) (B:Hp) (D:bF7) (σ:L2.St) (H:Hp) (o:Nat->AL) (EX:XK),Env K S B H σ ρ o->Sat K S B R D->(∀(C:Addr) (gs:List (Str×PyData)) (H':Hp) (dd:AK) (vs:List (Str×V)),XP C gs->Same H H'->XdA H' vs dd->FdF K H' vs gs->EX (.ref C) dd H')->tb EX D σ H
section
variable {K:Frag}{ρ:List Sl}{m:Bool}{tA:TA}{ta:TE}{d:PyData}{ds:AF}{C:Addr}{mn:Str}{fs:List (Str×Int)}{pre:AF->PyData->Prop}{preX:AF->Addr->List (Str×PyData)->Prop}{R:AE}{XP:Addr->List (Str×PyData)->Prop}
theorem eU8 (h:T K tc ρ v)(h1:v=true->WX K a ρ R XP)(X:v=false->WX K b ρ R XP):WX K (λEX=>bN3 tc (a EX) (b EX)) ρ R XP:=λS B D σ H o EX I s x=>h S B σ H o I _ λY e=>by
 cases v with
 | true=>exact h1 rfl S B D σ Y o EX (I.grow e) s λC j w r vs p q=>x C j w r vs p (L2.Same.tr e q)
 | false=>exact X rfl S B D σ Y o EX (I.grow e) s λC j w r vs p q=>x C j w r vs p (L2.Same.tr e q)
theorem cL9 (h:WX K a ρ R XP):WX K (bP3 a b) ρ R XP:=λS B D σ H o EX I s x=>.inl (h S B D σ H o EX I s x)
theorem bE6 (h:WX K b ρ R XP):WX K (bP3 a b) ρ R XP:=λS B D σ H o EX I s x=>.inr (h S B D σ H o EX I s x)
theorem cQ9 (ho:E K true ta ρ (inD C fs))(w:fs.lookup mn=none)(e:A K true tA ρ ds)(hp:pre (inD C fs::ds) d)(r:R.nx (ρ.set i (.val d))):WX K (λEX=>u8 (i6 C mn (spF K pre preX) [] EX ta tA) (M8 i)) ρ R XP:=λS B D σ H o EX I s x=>E5 (cT4 ho w e hp) r S B D σ H o I s
theorem dM7 {CE:Addr}{gs:List (Str×PyData)}{u:TE->TS}(P:∀(EX:XK) (D:bF7) (σ:L2.St) (H:Hp),(∀Q,i6 C mn (spF K pre preX) [] EX ta tA σ H Q)->u (i6 C mn (spF K pre preX) [] EX ta tA) D σ H)(ho:E K true ta ρ (inD C fs))(F:fs.lookup mn=none)(N:A K true tA ρ ds)(hp:preX (inD C fs::ds) CE gs)(hx:XP CE gs):WX K (λEX=>u (i6 C mn (spF K pre preX) [] EX ta tA)) ρ R XP:=λS B D σ H o EX I s x=>P EX D σ H λQ=>ho S B σ H o I _ λy X j r=>by
 obtain⟨a,w,rfl,e⟩:=bJ5 (r.mono aJ1);refine⟨a,w,_,rfl,e,by rw[aJ9,F];rfl,N S B σ X o (I.grow j) _ λvs H2 Y rs=>?_⟩
 exact⟨_,F1 ρ o S,((I.grow j).grow Y).lists,.cons (r.mono (L7 Y)) (by rw[Ba];exact rs),.inr ⟨CE,gs,hp,λU J ws s3 xa M=>x CE gs U J ws hx (L2.Same.tr j (L2.Same.tr Y s3)) xa M⟩⟩
theorem aO4 {CE:Addr}{gs:List (Str×PyData)}(ho:E K true ta ρ (inD C fs))(w:fs.lookup mn=none)(e:A K true tA ρ ds)(hp:preX (inD C fs::ds) CE gs)(r:XP CE gs):WX K (λEX=>aE0 (i6 C mn (spF K pre preX) [] EX ta tA)) ρ R XP:=dM7 (u:=λt=>aE0 t) (λEX D σ H q=>q _) ho w e hp r
theorem aZ4 {i:Nat}{CE:Addr}{gs:List (Str×PyData)}(ho:E K true ta ρ (inD C fs))(w:fs.lookup mn=none)(e:A K true tA ρ ds)(hp:preX (inD C fs::ds) CE gs)(r:XP CE gs):WX K (λEX=>u8 (i6 C mn (spF K pre preX) [] EX ta tA) (M8 i)) ρ R XP:=dM7 (u:=λt=>u8 t (M8 i)) (λEX D σ H q=>q _) ho w e hp r
theorem eJ1 (hb:WX K tb ρ R XP)
  (r:∀C gs,XP C gs->cF2 K C/\((L2.subIn K C (.ref T1)=true/\W K t1 (ρ.set j (.val (xfD C gs))) {nx:=λρ'=>R.nx (ρ'.set j .no)})\/(L2.subIn K C (.ref T1)=false/\L2.subIn K C (.ref T2)=true/\W K t2 (ρ.set j (.val (xfD C gs))) {nx:=λρ'=>R.nx (ρ'.set j .no)}))):W K (dR9 K T1 T2 tb j t1 t2) ρ R:=λS B D σ H o I J=>
 hb S B D σ H o _ I J λC gs s X ws p s3 xa F=>by
  obtain⟨P,z⟩:=r C gs p;have U:∀{th:TS},W K th (ρ.set j (.val (xfD C gs))) {nx:=λρ'=>R.nx (ρ'.set j .no)}->∀x,s x=none->th {nx:=λM e=>D.nx (M.set j none) e,rt:=λ_ _=>False} (σ.set j (some (.ref x))) (upd s x (excD x C X)):=λhh x r=>by
   have g:=G0 (o:=excD x C X) r
   have Y:=(I.grow s3).grow g
   have Q:=Y.set (m:=true) j (d:=xfD C gs) (dU1 Y C4 (cL3 g xa) (aC0 g F))
   exact hh S B _ _ _ o Q ⟨λρ' M e o' N w=>J.nx _ _ e o' (N.unset j) w,λ_ _ _ _ _ z=>z.elim,λ_ _ _ _ _ _ _ _ z=>z.elim,λ_ _ _ _ _ z=>z.elim,λ_ _ _ _ _ z=>z.elim⟩
  refine⟨C,rfl,P,?_⟩;rcases z with⟨a,b⟩ | ⟨a,b,c⟩
  .exact .inl ⟨a,U b⟩
  .exact .inr ⟨a,b,U c⟩
theorem X8 (ho:E K true ta ρ (inD C fs))(w:fs.lookup mn=none)(e:A K true tA ρ ds)
  (X:(∃d,pre (inD C fs::ds) d/\R.nx ρ)\/∃(CE:Addr) (gs:List (Str×PyData)),preX (inD C fs::ds) CE gs/\∀(H':Hp) (dd:AK) (vs:List (Str×V)),Same B H'->XdA H' vs dd->FdF K H' vs gs->EK (.ref CE) dd H'):WB K B (aE0 (i6 C mn (spF K pre preX) [] EK ta tA)) ρ R:=λS D σ H o I s=>by
 rcases X with⟨d,hp,j⟩ | ⟨CE,gs,hp,Y⟩
 .exact eL3 (m:=true) (cT4 ho w e hp) j S B D σ H o I s
 .refine aO4 (R:=R) (XP:=λC g=>C=CE/\g=gs) ho w e hp ⟨rfl,rfl⟩ S B D σ H o EK I s ?_
  rintro _ _ H' dd vs ⟨rfl,rfl⟩ U J r;exact Y H' dd vs (L2.Same.tr I.base U) J r
end
end LV
set_option maxHeartbeats 1000000
namespace K09
open PySem L2 LV PyProof.Rows
theorem eC4 (x y z:Int):z5 [x,y,z]=[x,y,z]\/z5 [x,y,z]=[y,z,x]\/z5 [x,y,z]=[z,x,y]:=by
 have e:=(aD6 (l:=[x,y,z]) (by simp)).1
 have hi:=Ac4 e
 unfold z5;generalize [x,y,z].idxOf (mnI [x,y,z])=i at hi;simp at hi
 match i,hi with
 | 0,_=>exact .inl rfl
 | 1,_=>exact .inr (.inl rfl)
 | 2,_=>exact .inr (.inr rfl)
theorem eY3 (p q r:Nat):TT.nrm p q r=[p,q,r]\/TT.nrm p q r=[q,r,p]\/TT.nrm p q r=[r,p,q]:=by
 unfold TT.nrm;split
 .exact .inl rfl
 .split
  .exact .inr (.inl rfl)
  .exact .inr (.inr rfl)
end K09
namespace TT
end TT
set_option maxHeartbeats 1000000
namespace K09
open PySem L2 LV PyProof.Rows
theorem bR4:B8 ["self", "drawing"] ["self", "drawing"] (A9 aE9):={}
theorem aL5:B8 ["self", "drawing", "new", "changes"] ["self", "drawing"] (A9 aR9):={}
theorem cI3:B8 ["self", "drawing"] ["self", "drawing"] (A9 aT9):={}
theorem bL1:B8 ["self", "drawing"] ["self", "drawing"] (A9 aB6):={}
theorem cB6:B8 ["self", "drawing"] ["self", "drawing"] (A9 aJ4):={}
theorem aW0:B8 ["self", "drawing", "turn"] ["self", "drawing"] (A9 aJ6):={}
structure Lb (m:Nat)(dr:AA)(x y z:Nat):Prop where
 h:y∈TT.trn dr x
 hz:z=TT.th (TT.trn dr) x y
 hin:TT.lnd (TT.trn dr) x y≠[0,2,1]
def aW2 (m:Nat)(dr:AA)(x y z:Nat):AA:=(List.range (m+4)).map λq=>TT.B5 (TT.bS5 (TT.trn dr) (m+3) x y z q)
def kv3 (m:Nat)(dr:AA)(x y z:Nat):List (Nat×AC):=[(x,TT.L4 (TT.trn dr x) y (m+3)),(y,TT.L4 (TT.trn dr y) z (m+3)),(z,TT.L4 (TT.trn dr z) x (m+3))]
theorem eI6 (s:dr.length=m+3)(x y z:Nat):wt dr (kv3 m dr x y z)++[TT.B5 [x,y,z]]=aW2 m dr x y z:=by
 unfold aW2;rw[Bh,Ad2];have j:TT.bS5 (TT.trn dr) (m+3) x y z (m+3)=[x,y,z]:=Ac rfl;show _=_++[TT.B5 (TT.bS5 (TT.trn dr) (m+3) x y z (m+3))];rw[j]
 congr 1
 refine List.ext_getElem? λi=>?_
 unfold wt;rw[List.getElem?_mapIdx,Aa9];by_cases hi:i<m+3
 .rw[N5 (by lia),List.getElem?_range hi]
  show some (TT.B5 ((lk (kv3 m dr x y z) i).getD (TT.trn dr i)))=some (TT.B5 (TT.bS5 (TT.trn dr) (m+3) x y z i))
  congr 2
  unfold TT.bS5 lk kv3;rw[Ab (by lia)]
  by_cases e:i=x
  .subst e;simp
  .rw[Ab e];by_cases w:i=y
   .subst w;simp[Aq,Ne.symm e]
   .rw[Ab w];by_cases r:i=z
    .subst r;simp[Aq,Ne.symm e,Ne.symm w]
    .rw[Ab r];simp[Aq,Ne.symm e,Ne.symm w,Ne.symm r]
 .rw[Ad6 (by lia),Ad6 (by simp;lia)];rfl
def pD3 (C:Addr)(x y z:Nat):PyData:=inD C [("a",(x:Int)),("b",(y:Int)),("c",(z:Int))]
def tD1 (C:Addr)(n:Nat):PyData:=inD C [("p",(n:Int))]
def eQ1 (C:Addr)(ds:AF)(d:PyData):Prop:=∃(m:Nat) (dr tr:AA) (x y z:Nat),Dw m dr tr/\m<=6/\Lb m dr x y z/\ds=[pD3 C x y z,tD dr]/\d=.none
def eE3 (C:Addr)(ds:AF)(d:PyData):Prop:=∃(m:Nat) (dr tr:AA) (x y z:Nat),Dw m dr tr/\m<=6/\Lb m dr x y z/\ds=[pD3 C x y z,tD dr]/\d=.tuple ((aW2 m dr x y z).map tN)
def eD3 (C C':Addr)(ds:AF)(d:PyData):Prop:=∃(m:Nat) (dr tr:AA) (x y z:Nat),Dw m dr tr/\m<=6/\Lb m dr x y z/\ds=[pD3 C x y z,tD dr]/\d=tD1 C' (m+3)
structure La (n:Nat)(dr:AA)(x y z:Nat):Prop where
 h3:3<=n
 hn:n<=100
 hl:dr.length=n+1
 at_:dr[n]? = some [x,y,z]
 le:∀l∈dr,l.length<=1000
def eW0 (C:Addr)(ds:AF)(d:PyData):Prop:=∃(n:Nat) (dr:AA) (x y z:Nat),La n dr x y z/\ds=[tD1 C n,tD dr]/\d=.none
def V7 (n:Nat)(dr:AA):AA:=(dr.take n).map λl=>l.filter λx=>decide (x≠n)
def eB7 (C:Addr)(ds:AF)(d:PyData):Prop:=∃(n:Nat) (dr:AA) (x y z:Nat),La n dr x y z/\ds=[tD1 C n,tD dr]/\d=.tuple ((V7 n dr).map tN)
def eC9 (C C':Addr)(ds:AF)(d:PyData):Prop:=∃(n:Nat) (dr:AA) (x y z:Nat),La n dr x y z/\ds=[tD1 C n,tD dr]/\d=pD3 C' x y z
def fTk (n:Nat):PyData->Option PyData
 | .tuple l=>some (tN ((l.map toN).filter λx=>decide (x≠n)))
 | _=>none
theorem dO3 (n:Nat)(l:AC):fTk n (tN l)=some (tN (l.filter λx=>decide (x≠n))):=by
 show some (tN (((nI l).map toN).filter λx=>decide (x≠n)))=_
 rw[cN0]
theorem dY5 (n:Nat)(L:AA):(L.map tN).filterMap (fTk n)=(L.map λl=>l.filter λx=>decide (x≠n)).map tN:=by
 induction L with
 | nil=>rfl
 | cons l L e=>
  rw[Ac7,An,dO3];show _::_=_::_;rw[e]
theorem bQ0 (h:PyData.strOk s=true):FitN 1 (.str s):=⟨h,by simp[PyData.depth]⟩
def inn (m:Nat)(dr:AA):AB:=(cA1 ((TT.rds (TT.trn dr) (m+3)).map cL)).filter λl=>decide (l≠[0,2,1])
def pI3 (C:Addr)(x y z:Int):PyData:=inD C [("a",x),("b",y),("c",z)]
def tI1 (C:Addr)(p:Int):PyData:=inD C [("p",p)]
def cW1 (CP CM CL:Addr)(ds:AF)(C:Addr)(fs:List (Str×PyData)):Prop:=fs=[]/\∃(m:Nat) (dr tr:AA) (x y z:Int),Dw m dr tr/\ds=[pI3 CP x y z,tD dr]/\((m=7/\C=CM)\/(m<=6/\z5 [x,y,z]∉inn m dr/\C=CL))
def tkc (m:Nat)(dr:AA)(p:Int):Prop:=p=((m+2:Nat):Int)/\3<=p/\(TT.trn dr (m+2)).length=3
def cS9 (CT CP:Addr)(ds:AF)(C:Addr)(fs:List (Str×PyData)):Prop:=fs=[]/\∃(m:Nat) (dr tr:AA) (p:Int),Dw m dr tr/\ds=[tI1 CT p,tD dr]/\¬tkc m dr p/\C=CP
theorem cY5 (w:Dw m dr tr):l∈inn m dr↔∃p q,q∈TT.trn dr p/\l=cL (TT.lnd (TT.trn dr) p q)/\TT.lnd (TT.trn dr) p q≠[0,2,1]:=by
 unfold inn;rw[Bf,(U7 _).mem_iff,Aa8];constructor
 .rintro⟨⟨j,h1,rfl⟩,e⟩;obtain⟨p,q,r,rfl⟩:=w.good.rds_mem.mp h1;exact⟨p,q,r,rfl,λz=>Aj e (by rw[z];rfl)⟩
 .rintro⟨p,q,h1,rfl,e⟩;exact⟨⟨_,w.good.rds_mem.mpr ⟨p,q,h1,rfl⟩,rfl⟩,Bc λz=>e (cB9 (b:=[0,2,1]) z)⟩
theorem dZ9 (l:AD):((inn m dr).map tI).any (λz=>PyData.eqv z (tI l))=decide (l∈inn m dr):=by
 rw[Cm,Ak,List.any_eq_true];constructor
 .rintro⟨_,h,e⟩;obtain⟨k,w,rfl⟩:=Aa8.mp h;rw[aS6]at e;exact Aj e▸w
 .intro h;exact⟨_,Aa8.mpr ⟨l,h,rfl⟩,by rw[aS6];exact Bc rfl⟩
section
variable {P:Program}{w:World}{K:Frag}{mg:Str->Option Value}{base:Heap}{a:Ad}
theorem eE4 (T:Tx K mg a):FnOk P w K mg base (CXd P w) 6 a.O7 a.U6 ["self", "drawing"] (spF K (eQ1 a.D9) (cW1 a.D9 a.F0 a.G4)):=by
 have Y := @cM5 P w K mg base a T
 have U := @dG5 P w K mg base a T
 obtain⟨tm,gm⟩:=T.aB4;refine T.i5.okD bR4 (bD9 (by rintro ds d ⟨_,_,_,_,_,_,_,_,_,e,_⟩;rw[e];rfl) (by rintro ds C fs ⟨_,_,_,_,_,_,_,_,e,_⟩;rw[e];rfl)) (λcdv A outer s H vs Q E hr h=>?_)
 obtain⟨ds,S,hS,r,z⟩:=h;refine⟨_,(A3 (L6 (B9 dN7 (C0 (aD7 K) (by rfl) T.O9 Am (A0 (pv 1) A2)) (P8 (v:=.int 10) rfl gm ⟨tm,rfl⟩) (D8 _)) (A7 (aX9 rfl T.bX2 T.aO9 rfl (A0 K2 A2) bZ2)) E1)
   (A7 (L6 (B9 (bF8 K hr) (pcl Y hr T.R8 (A0 (H9 (A0 (J8 (pv 0) rfl) (A0 (J8 (pv 0) rfl) (A0 (J8 (pv 0) rfl) A2)))) A2)) (pcl U hr T.aR4 (A0 (pv 1) A2)) rfl) (A7 (aX9 rfl T.cG0 T.aY8 rfl (A0 K2 A2) bZ2)) E1))),?_⟩
 rcases z with⟨d,⟨m,dr,tr,x,y,z,M,F,R,rfl,rfl⟩,q⟩ | ⟨C,fs,⟨rfl,m,dr,tr,x,y,z,M,rfl,hz⟩,q⟩
 .refine aH3 hS r (W.wb ?_) q;have N:=M.len;obtain⟨n1,n2,n3⟩:=M.good.th_ne R.h;rw[<- R.hz]at n2 n3;have J:((dr.map tN).length:Int)=((m+3:Nat):Int):=by rw[Aa3,N]
  refine A8 (K9 (b:=false) (C1 (by
   have:=z4 (K:=K) (m:=false) (ρ:=sl0 ["self", "drawing"].length [pD3 a.D9 x y z,tD dr]) (g:=λi j=>decide (i≥j)) (M9 (ds:=dr.map tN) (A1 v1 A5)) (A6 (i:=10))
   rw[show decide (((dr.map tN).length:Int)≥10)=false by rw[J];simp;lia]at this
   exact this)) (λh=>by cases h) (λ_=>E2 ?_))
  refine K9 (b := !true) (C1 (by
   have:=aX8 (K:=K) (m:=false) (ρ:=sl0 ["self", "drawing"].length [pD3 a.D9 x y z,tD dr]) (d:=tN (TT.B5 [x,y,z])) (d':=.list (((cA1 ((TT.rds (TT.trn dr) (m+3)).map cL)).filter λl=>decide (l≠[0,2,1])).map tI)) (C3 (pre:=cO3) (X:=E0) (A1 (N3 (A1 (U0 v0 T.P4 T.aZ7 rfl) (A1 (U0 v0 T.P4 T.aZ2 rfl) (A1 (U0 v0 T.P4 T.bC4 rfl) A5)))) A5) ⟨cL [x,y,z],by simp[cL],by simp[cL],rfl,by rw[aP3,p5]⟩) (EF.e' (s9 (pre:=dO0) (X:=E0) (A1 v1 A5) ⟨m,dr,tr,M,rfl,rfl⟩)) rfl (dR2 _) ((aK9 (n:=1) λd hd=>by obtain⟨l,_,rfl⟩:=Aa8.mp hd;exact V1 _).fit)
   rw[show(List.any (((cA1 ((TT.rds (TT.trn dr) (m+3)).map cL)).filter λl=>decide (l≠[0,2,1])).map tI) λz'=>PyData.eqv z' (tN (TT.B5 [x,y,z])))=true from by
    rw[List.any_eq_true];have e2:TT.B5 [x,y,z]=TT.lnd (TT.trn dr) x y:=by rw[aP5 n1 n2 n3];unfold TT.lnd;rw[R.hz]
    refine⟨tI (cL (TT.B5 [x,y,z])),Aa8.mpr ⟨_,Bf.mpr ⟨(U7 _).mem_iff.mpr (Aa8.mpr ⟨_,M.good.rds_mem.mpr ⟨x,y,R.h,e2⟩,rfl⟩),?_⟩,rfl⟩,by rw[p5,aS6];exact Bc rfl⟩
    rw[Ak,e2];exact λz=>R.hin (cB9 (b:=[0,2,1]) z)]at this
   exact this)) (λh=>by cases h) (λ_=>E2 rfl)
 .refine W3 hS r ?_;have N:=M.len;have J:((dr.map tN).length:Int)=((m+3:Nat):Int):=by rw[Aa3,N]
  have c1:=z4 (K:=K) (m:=false) (ρ:=sl0 ["self", "drawing"].length [pI3 a.D9 x y z,tD dr]) (g:=λi j=>decide (i≥j)) (M9 (ds:=dr.map tN) (A1 v1 A5)) (A6 (i:=10))
  refine Q2 (bW6 (C1 c1) (λh=>?_) (λh=>W.wb (E2 ?_)))
  .rcases hz with⟨F,rfl⟩ | ⟨F,_⟩
   .exact aW4 (A1 (m:=true) O1 A5) (show 1<=1000 by decide) λB s'=>q B none [] s' rfl .nil
   .exact absurd (Aj h) (by rw[J];lia)
  .rcases hz with⟨F,rfl⟩ | ⟨F,hi,rfl⟩
   .exact absurd (Ar h) (by rw[J];lia)
   have c2:=aX8 (K:=K) (m:=false) (ρ:=sl0 ["self", "drawing"].length [pI3 a.D9 x y z,tD dr]) (d:=tI (z5 [x,y,z])) (d':=.list ((inn m dr).map tI)) (C3 (pre:=cO3) (X:=E0) (A1 (N3 (ds:=[.int x,.int y,.int z]) (A1 (U0 v0 T.P4 T.aZ7 rfl) (A1 (U0 v0 T.P4 T.aZ2 rfl) (A1 (U0 v0 T.P4 T.bC4 rfl) A5)))) A5) ⟨[x,y,z],by simp,by simp,rfl,rfl⟩) (EF.e' (s9 (pre:=dO0) (X:=E0) (A1 v1 A5) ⟨m,dr,tr,M,rfl,rfl⟩)) rfl (V1 _).fit ((aK9 (n:=1) λd hd=>by obtain⟨l,_,rfl⟩:=Aa8.mp hd;exact V1 _).fit)
   rw[dZ9,Aw hi]at c2;exact bW6 (b := !false) (C1 c2) (λ_=>aW4 (A1 (m:=true) O1 A5) (show 1<=1000 by decide) λB s'=>q B none [] s' rfl .nil) (λh=>by cases h)
theorem eU3 (T:Tx K mg a):FnOk P w K mg base (CXd P w) 7 a.T9 a.j8 ["self", "drawing"] (spF K (eE3 a.D9) (cW1 a.D9 a.F0 a.G4)):=by
 have Y := @cM5 P w K mg base a T
 have X:FnOk P w K mg base (CXd P w) 6 _ _ _ _:=eE4 T
 have j := @eB9 P w K mg base a T
 have U := @eD1 P w K mg base a T
 refine T.y0.okD aL5 (bD9 (by rintro ds d ⟨_,_,_,_,_,_,_,_,_,e,_⟩;rw[e];rfl) (by rintro ds C fs ⟨_,_,_,_,_,_,_,_,e,_⟩;rw[e];rfl)) (λcdv A outer s H vs Q E B h=>?_)
 obtain⟨ds,S,hS,r,z⟩:=h;refine⟨_,(A3 (L8 (aO8 (pv 0) T.P4 T.aR8 X (B.mono (by decide)) T.bB8 .nil bX5 (A0 (pv 1) A2)))
   (A3 (psS 2 aL5 (C0 (aD7 K) (by rfl) T.O9 Am (A0 (pv 1) A2)))
   (A3 (psS 3 aL5 (cV1 (w5 (J8 (pv 0) rfl) (pcl j B T.U4 (A0 (B4 (ixK K) (pv 1) (J8 (pv 0) rfl) (λ_ _=>rfl)) (A0 (J8 (pv 0) rfl) (A0 (pv 2) A2)))) (w5 (J8 (pv 0) rfl) (pcl j B T.U4 (A0 (B4 (ixK K) (pv 1) (J8 (pv 0) rfl) (λ_ _=>rfl)) (A0 (J8 (pv 0) rfl) (A0 (pv 2) A2)))) (w5 (J8 (pv 0) rfl) (pcl j B T.U4 (A0 (B4 (ixK K) (pv 1) (J8 (pv 0) rfl) (λ_ _=>rfl)) (A0 (J8 (pv 0) rfl) (A0 (pv 2) A2)))) cZ3))) rfl rfl (by simp) (by decide)))
   (A7 (B7 (B1 (aZ6 K) (pcl U B T.aF7 (A0 (pv 1) (A0 (pv 3) A2))) (H9 (A0 (pcl Y B T.R8 (A0 (H9 (A0 (J8 (pv 0) rfl) (A0 (J8 (pv 0) rfl) (A0 (J8 (pv 0) rfl) A2)))) A2)) A2)))))))),?_⟩
 rcases z with⟨d,⟨m,dr,tr,x,y,z,J,hm,F,rfl,rfl⟩,q⟩ | ⟨C,fs,hx,q⟩
 .refine aH3 hS r ?_ q;have M:=J.len;obtain⟨n1,n2,n3⟩:=J.good.th_ne F.h;obtain⟨m1,m2⟩:=J.good.th_mem F.h;rw[<- F.hz]at n2 n3 m1 m2;have hln:((dr.map tN).length:Int)=((m+3:Nat):Int):=by rw[Aa3,M]
  refine Q2 (X8 v0 rfl (A1 v1 A5) (.inl ⟨.none,⟨m,dr,tr,x,y,z,J,hm,F,rfl,rfl⟩,W.wb ?_⟩));refine A8 (E5 (d:=.int ((m+3:Nat):Int)) (by rw[<- hln];exact M9 (ds:=dr.map tN) (A1 v1 A5)) ?_)
  have lx:=J.lt F.h
  have ly:=J.lt m1
  have lz:=J.lt m2
  have tx:=J.tle x
  have ty:=J.tle y
  have tz:=J.tle z
  show W K _ [.val (pD3 a.D9 x y z),vD dr,vI ((m+3:Nat):Int),.no] _
  have fa:∀N,LV.E K N (aI6 K (C7 0) "a") [.val (pD3 a.D9 x y z),vD dr,vI ((m+3:Nat):Int),.no] (.int (x:Int)):=λN=>U0 v0 T.P4 T.aZ7 rfl
  have fb:∀N,LV.E K N (aI6 K (C7 0) "b") [.val (pD3 a.D9 x y z),vD dr,vI ((m+3:Nat):Int),.no] (.int (y:Int)):=λN=>U0 v0 T.P4 T.aZ2 rfl
  have fc:∀N,LV.E K N (aI6 K (C7 0) "c") [.val (pD3 a.D9 x y z),vD dr,vI ((m+3:Nat):Int),.no] (.int (z:Int)):=λN=>U0 v0 T.P4 T.bC4 rfl
  refine A8 (E5 (d:=diD (kI (kv3 m dr x y z))) (dH2 (aH8 (is:=cL (TT.L4 (TT.trn dr x) y (m+3))) (fa _) (by rw[<- p5];exact C3 (A1 (C9 (ds:=dr.map tN) v1 (fa _) rfl (J.at_ lx)) (A1 (fb _) (A1 v2 A5))) ⟨_,_,_,F.h,by lia,rfl,rfl⟩) (aH8 (is:=cL (TT.L4 (TT.trn dr y) z (m+3))) (fb _) (by rw[<- p5];exact C3 (A1 (C9 (ds:=dr.map tN) v1 (fb _) rfl (J.at_ ly)) (A1 (fc _) (A1 v2 A5))) ⟨_,_,_,m1,by lia,rfl,rfl⟩) (aH8 (is:=cL (TT.L4 (TT.trn dr z) x (m+3))) (fc _) (by rw[<- p5];exact C3 (A1 (C9 (ds:=dr.map tN) v1 (fc _) rfl (J.at_ lz)) (A1 (fa _) (A1 v2 A5))) ⟨_,_,_,m2,by lia,rfl,rfl⟩) dM9))) (by
   show [(x:Int),(y:Int),(z:Int)].Nodup
   simp;lia) (by show 3<=15;decide)) ?_)
  refine E9 (d:=.tuple ((wt dr (kv3 m dr x y z)).map tN++[tN (TT.B5 [x,y,z])])) (cA8 (C3 (A1 v1 (A1 v3 A5)) ⟨dr,kv3 m dr x y z,by lia,λl hl=>?_,λu hu=>?_,rfl,rfl⟩) (N3 (A1 (C3 (A1 (N3 (A1 (U0 v0 T.P4 T.aZ7 rfl) (A1 (U0 v0 T.P4 T.aZ2 rfl) (A1 (U0 v0 T.P4 T.bC4 rfl) A5)))) A5) ⟨cL [x,y,z],by simp[cL],by simp[cL],rfl,by rw[aP3,p5]⟩) A5)) (U9 _) (by exact U9 [TT.B5 [x,y,z]]) ?_ ?_) ?_
  .obtain⟨p,hp,e⟩:=List.mem_iff_getElem.mp hl;have e1:=N5 hp;rw[Aa2 hp,e]at e1;have e2:=Ab4 e1;have h2:=J.good.two p (by lia)
   have:=J.tle p
   rw[e2];exact⟨λz=>by rw[z]at h2;simp at h2,by lia⟩
  .have R:∀{l:AC} {b v:Nat},b∈l->l.length<=10->TT.L4 l b v≠[]/\(TT.L4 l b v).length<=1000:=λ{l b v} h1 h2=>by
    have:=TT.y9 (v:=v) h1
    exact⟨λz=>by rw[z]at this;simp at this,by lia⟩
   unfold kv3 at hu;simp only[Aa1,Ac2,or_false]at hu;rcases hu with rfl | rfl | rfl
   .exact R F.h tx
   .exact R m1 ty
   .exact R m2 tz
  .intro z
   have:=congrArg List.length z
   unfold wt at this;rw[Aa3,List.length_mapIdx,M]at this;simp at this
  .unfold wt;rw[Aa3,List.length_mapIdx,M];unfold sizeLine;simp;lia
  .show PyData.tuple _=PyData.tuple _
   rw[<- eI6 M,Ad2];rfl
 .obtain⟨rfl,m,dr,tr,x,y,z,J,rfl,hz⟩:=hx;refine W3 hS r ?_;exact Q2 (X8 v0 rfl (A1 v1 A5) (.inr ⟨C,[],⟨rfl,m,dr,tr,x,y,z,J,rfl,hz⟩,λH' dd vs s' e1 e2=>q H' dd vs s' e1 e2⟩))
theorem eQ8 (T:Tx K mg a):FnOk P w K mg base (CXd P w) 7 a.T6 a.j4 ["self", "drawing"] (spF K (eD3 a.D9 a.C8) (cW1 a.D9 a.F0 a.G4)):=by
 have j:FnOk P w K mg base (CXd P w) 6 _ _ _ _:=eE4 T
 have Y := @dJ9 P w K mg base a T
 refine T.z0.okD cI3 (bD9 (by rintro ds d ⟨_,_,_,_,_,_,_,_,_,e,_⟩;rw[e];rfl) (by rintro ds C fs ⟨_,_,_,_,_,_,_,_,e,_⟩;rw[e];rfl)) (λB A M s H vs Q E R h=>?_)
 obtain⟨ds,S,N,r,z⟩:=h;refine⟨_,(A3 (L8 (aO8 (pv 0) T.P4 T.aR8 j (R.mono (by decide)) T.bB8 .nil bX5 (A0 (pv 1) A2)))
   (A7 (B7 (t5 T.aW5 Y (R.mono (by decide)) rfl T.cN6 T.aJ2 .nil aI4 (A0 (C0 (aD7 K) (by rfl) T.O9 Am (A0 (pv 1) A2)) A2))))),?_⟩
 rcases z with⟨d,⟨m,dr,tr,x,y,z,X,hm,lb,rfl,rfl⟩,q⟩ | ⟨C,fs,hx,q⟩
 .refine aH3 N r ?_ q;have U:=X.len;have J:((dr.map tN).length:Int)=((m+3:Nat):Int):=by rw[Aa3,U]
  refine Q2 (X8 v0 rfl (A1 v1 A5) (.inl ⟨.none,⟨m,dr,tr,x,y,z,X,hm,lb,rfl,rfl⟩,W.wb ?_⟩));exact E9 (d:=tD1 a.C8 (m+3)) (aG6 (is:=[((m+3:Nat):Int)]) (A1 (by rw[<- J];exact M9 (ds:=dr.map tN) (A1 v1 A5)) A5) rfl) rfl
 .obtain⟨rfl,m,dr,tr,x,y,z,X,rfl,hz⟩:=hx;refine W3 N r ?_;exact Q2 (X8 v0 rfl (A1 v1 A5) (.inr ⟨C,[],⟨rfl,m,dr,tr,x,y,z,X,rfl,hz⟩,λF dd vs s' e1 e2=>q F dd vs s' e1 e2⟩))
theorem eB6 (T:Tx K mg a):FnOk P w K mg base (CXd P w) 1 a.O0 a.S8 ["self", "drawing"] (spF K (eW0 a.C8) (cS9 a.C8 a.E8)):=by
 obtain⟨tc,gc⟩:=T.t9;refine T.V5.okD bL1 (bD9 (by rintro ds d ⟨_,_,_,_,_,_,e,_⟩;rw[e];rfl) (by rintro ds C fs ⟨_,_,_,_,_,_,e,_⟩;rw[e];rfl)) (λcdv A outer s H vs Q E hr h=>?_)
 obtain⟨ds,S,hS,r,z⟩:=h;refine⟨_,(A7 (L6 (PW.pt (aV3 (B9 bH7 (J8 (pv 0) rfl) (B1 S2 (C0 (aD7 K) (by rfl) T.O9 Am (A0 (pv 1) A2)) A4) (D8 _)) (aV3 (B9 aR2 (J8 (pv 0) rfl) (P8 (v:=.int 3) rfl gc ⟨tc,rfl⟩) (D8 _)) (bQ8 (B9 bH7 (C0 (aD7 K) (by rfl) T.O9 Am (A0 (B4 (ixK K) (pv 1) (J8 (pv 0) rfl) (λ_ _=>rfl)) A2)) A4 (D8 _)))))) (A7 (aX9 rfl T.bV8 T.aO5 rfl (A0 K2 A2) bZ2)) E1)),?_⟩
 rcases z with⟨d,⟨n,dr,x,y,z,F,rfl,rfl⟩,q⟩ | ⟨C,fs,⟨rfl,m,dr,tr,p,dw,rfl,hz,rfl⟩,q⟩
 .refine aH3 hS r (W.wb ?_) q;have h3:=F.h3;have X:((dr.map tN).length:Int)-1=(n:Int):=by rw[Aa3,F.hl];lia
  have Y:∀U,LV.E K U (aI6 K (C7 0) "p") (sl0 ["self", "drawing"].length [tD1 a.C8 n,tD dr]) (.int (n:Int)):=λU=>U0 v0 T.W0 T.aD9 rfl
  refine K9 (b:=(!decide ((n:Int)=((dr.map tN).length:Int)-1))||(decide ((n:Int)<3) || !decide (((nI [x,y,z]).length:Int)=3))) (aI5 (C1 (aI3 (Y _) (N4 (g:=λi j=>i-j) (M9 (ds:=dr.map tN) (A1 v1 A5)) A6))) λ_=>aI5 (C1 (z4 (g:=λi j=>decide (i<j)) (Y _) (A6 (i:=3)))) λ_=>C1 (aI3 (M9 (ds:=nI [x,y,z]) (A1 (C9 (ds:=dr.map tN) v1 (Y _) rfl (S1 n rfl (by rw[Aa9,F.at_];rfl))) A5)) A6)) (λh=>?_) (λ_=>E2 rfl)
  rw[X,show decide ((n:Int)=(n:Int))=true from Bc rfl,show decide ((n:Int)<3)=false from Aw (by lia)]at h
  cases h
 .refine W3 hS r ?_;have N:=dw.len;have Y:∀U,LV.E K U (aI6 K (C7 0) "p") (sl0 ["self", "drawing"].length [tI1 a.C8 p,tD dr]) (.int p):=λU=>U0 v0 T.W0 T.aD9 rfl
  have X:((dr.map tN).length:Int)-1=((m+2:Nat):Int):=by rw[Aa3,N];lia
  have J:=C1 (aI3 (K:=K) (m:=false) (Y _) (N4 (g:=λi j=>i-j) (M9 (ds:=dr.map tN) (A1 v1 A5)) (A6 (i:=1))))
  rw[X]at J;have rz:=λ(R:AE)=>aW4 (K:=K) (B:=H) (R:=R) (ρ:=sl0 ["self", "drawing"].length [tI1 a.C8 p,tD dr]) (EX:=λM=>E (.ref a.E8) none M) (A1 (m:=true) (O1 (x := "only the last place can be taken, an inner one with three ties")) A5) (show 1<=1000 by decide) λM s'=>q M none [] s' rfl .nil
  by_cases h1:p=((m+2:Nat):Int)
  .have n3:=C1 (aI3 (K:=K) (m:=false) (M9 (ds:=nI (TT.trn dr (m+2))) (A1 (C9 (ds:=dr.map tN) v1 (Y _) rfl (by rw[h1];exact dw.at_ (by lia))) A5)) (A6 (i:=3)))
   refine bW6 (aI5 J λ_=>aI5 (C1 (z4 (g:=λi j=>decide (i<j)) (Y _) (A6 (i:=3)))) λ_=>n3) (λ_=>rz _) (λh=>?_)
   simp only[Bool.or_eq_false_iff,Bool.not_eq_false',Ak,Bv]at h;exact absurd ⟨h1,by lia,by have:=h.2.2;rw[G5]at this;lia⟩ hz
  .rw[Aw h1]at J;exact bW6 (b := !false||true) (aI5 J λh=>by cases h) (λ_=>rz _) (λh=>by cases h)
theorem eT1 (T:Tx K mg a):FnOk P w K mg base (CXd P w) 2 a.R3 a.Y4 ["self", "drawing"] (spF K (eB7 a.C8) (cS9 a.C8 a.E8)):=by
 have j:FnOk P w K mg base (CXd P w) 1 _ _ _ _:=eB6 T
 have Y := @eB4 P w K mg base a T
 refine T.n9.okD cB6 (bD9 (by rintro ds d ⟨_,_,_,_,_,_,e,_⟩;rw[e];rfl) (by rintro ds C fs ⟨_,_,_,_,_,_,e,_⟩;rw[e];rfl)) (λF A J s H vs Q E N h=>?_)
 obtain⟨ds,S,M,r,z⟩:=h;refine⟨_,(A3 (L8 (aO8 (pv 0) T.W0 T.aN2 j (N.mono (by decide)) T.aR7 .nil bX5 (A0 (pv 1) A2)))
   (A7 (B7 (K5 (cR3 K) (by rfl) T.S5 boot_tuple (A0 (U5 (T:=["turn"]) (N':=["turn", "self"]) (is:=[0]) rfl (.of rfl rfl rfl (by exact⟨rfl,trivial⟩) rfl rfl rfl (by exact⟨⟨_,rfl,by first | exact .inl rfl | exact .inr rfl,by first | exact .inl rfl | exact .inr rfl⟩,trivial⟩)) (aN4 (P9 (cA0 K) (pv 1) Z1 (S0 (J8 (pv 0) rfl)))) (T3 (by decide)) λ_ _ _ _=>⟨(R5 (i:=0) (by decide +kernel:(["turn", "self"]:AH).Nodup) rfl (Or.inl rfl)),i3,(pcl Y N T.aO3 (A0 (pv 0) (A0 (dV7 K (pv 1) rfl) A2)))⟩) A2))))),?_⟩
 rcases z with⟨d,⟨n,dr,x,y,z,X,rfl,rfl⟩,q⟩ | ⟨C,fs,hx,q⟩
 .refine aH3 M r ?_ q;have hl:=X.hl;have hn:=X.hn;refine Q2 (X8 v0 rfl (A1 v1 A5) (.inl ⟨.none,⟨n,dr,x,y,z,X,rfl,rfl⟩,W.wb ?_⟩));have hc:aD0 (dr.map tN) none (some (n:Int))=(dr.take n).map tN:=by rw[aL2 (by rw[Aa3];lia),List.map_take]
  refine E9 (Y8 (ds:=(V7 n dr).map tN) (A1 (EF.e' (bU1 (U3 (m:=true) (fTk n) (bI8 (ds:=(dr.take n).map tN) (by rw[<- hc];exact aL7 (ds:=dr.map tN) v1 j7 (U1 (U0 v0 T.W0 T.aD9 rfl)) (U9 _))) (by rw[Aa3,Ad1];unfold sizeLine;lia) λd hd=>?_) (dY5 n _))) A5) (U9 _)) rfl
  obtain⟨l,U,rfl⟩:=Aa8.mp hd;rw[dO3];exact⟨_,F8,aU4,C3 (A1 v0 (A1 (U0 v1 T.W0 T.aD9 rfl) A5)) ⟨l,n,X.le l (Be U),rfl,rfl⟩⟩
 .obtain⟨rfl,m,dr,tr,p,dw,rfl,hz⟩:=hx;refine W3 M r ?_;exact Q2 (X8 v0 rfl (A1 v1 A5) (.inr ⟨C,[],⟨rfl,m,dr,tr,p,dw,rfl,hz⟩,λR B vs s' e1 e2=>q R B vs s' e1 e2⟩))
theorem eQ9 (T:Tx K mg a):FnOk P w K mg base (CXd P w) 3 a.Q8 a.X7 ["self", "drawing"] (spF K (eC9 a.C8 a.D9) (cS9 a.C8 a.E8)):=by
 have j:FnOk P w K mg base (CXd P w) 1 _ _ _ _:=eB6 T
 have Y := @dR8 P w K mg base a T
 refine T.m9.okD aW0 (bD9 (by rintro ds d ⟨_,_,_,_,_,_,e,_⟩;rw[e];rfl) (by rintro ds C fs ⟨_,_,_,_,_,_,e,_⟩;rw[e];rfl)) (λR A X s H vs Q E J h=>?_)
 obtain⟨ds,S,U,r,z⟩:=h;refine⟨_,(A3 (L8 (aO8 (pv 0) T.W0 T.aN2 j (J.mono (by decide)) T.aR7 .nil bX5 (A0 (pv 1) A2)))
   (A3 (psS 2 aW0 (B4 (ixK K) (pv 1) (J8 (pv 0) rfl) (λ_ _=>rfl)))
   (A7 (B7 (t5 T.bM7 Y (J.mono (by decide)) rfl T.dI5 T.aT2 .nil aI4 (A0 (B4 (ixK K) (pv 2) A4 (λ_ _=>rfl)) (A0 (B4 (ixK K) (pv 2) A4 (λ_ _=>rfl)) (A0 (B4 (ixK K) (pv 2) A4 (λ_ _=>rfl)) A2)))))))),?_⟩
 rcases z with⟨d,⟨n,dr,x,y,z,M,rfl,rfl⟩,q⟩ | ⟨C,fs,hx,q⟩
 .refine aH3 U r ?_ q;refine Q2 (X8 v0 rfl (A1 v1 A5) (.inl ⟨.none,⟨n,dr,x,y,z,M,rfl,rfl⟩,W.wb ?_⟩));refine A8 (E5 (d:=tN [x,y,z]) (C9 (ds:=dr.map tN) v1 (U0 v0 T.W0 T.aD9 rfl) rfl (S1 n rfl (by rw[Aa9,M.at_];rfl))) ?_)
  exact E9 (d:=pD3 a.D9 x y z) (aG6 (is:=[(x:Int),(y:Int),(z:Int)]) (A1 (C9 (ds:=nI [x,y,z]) v2 A6 rfl rfl) (A1 (C9 (ds:=nI [x,y,z]) v2 A6 rfl rfl) (A1 (C9 (ds:=nI [x,y,z]) v2 A6 rfl rfl) A5))) rfl) rfl
 .obtain⟨rfl,m,dr,tr,p,B,rfl,hz⟩:=hx;refine W3 U r ?_;exact Q2 (X8 v0 rfl (A1 v1 A5) (.inr ⟨C,[],⟨rfl,m,dr,tr,p,B,rfl,hz⟩,λN F vs s' e1 e2=>q N F vs s' e1 e2⟩))
end
set_option maxHeartbeats 1000000
section
variable {m:Nat}{dr tr:AA}{x y z:Nat}
theorem Lb.ne (e:Lb m dr x y z)(w:Dw m dr tr):x≠y/\y≠z/\x≠z:=by
 have:=w.good.th_ne e.h
 rw[<- e.hz]at this;exact this
theorem Lb.mem (e:Lb m dr x y z)(w:Dw m dr tr):z∈TT.trn dr y/\x∈TT.trn dr z:=by
 have:=w.good.th_mem e.h
 rw[<- e.hz]at this;exact this
theorem Lb.rot (e:Lb m dr x y z)(w:Dw m dr tr):Lb m dr y z x:=by
 refine⟨(e.mem w).1,?_,?_⟩
 .rw[e.hz,w.good.th_rot e.h]
 .rw[e.hz,<- w.good.lnd_rot e.h];exact e.hin
theorem dJ5:(aW2 m dr x y z).length=m+4:=by simp[aW2]
def Bg (m:Nat)(dr:AA):Prop:=∀p,p<m+3->TT.B5 (TT.trn dr p)=TT.trn dr p
theorem bQ9 (X:Lb m dr x y z)(Y:Dw m dr tr):aW2 m dr y z x=aW2 m dr x y z:=by
 obtain⟨w,s,r⟩:=X.ne Y;unfold aW2;refine Bk λq _=>?_
 unfold TT.bS5;by_cases e:q=m+3
 .rw[Ac e,Ac e,aP5 s (Ne.symm r) (Ne.symm w),aP5 w s r,TT.cV2 w s r]
 .rw[Ab e,Ab e];by_cases j:q=x
  .subst j;rw[Ab w,Ab r,Ac rfl,Ac rfl]
  .rw[Ab j,Ab j]
end
end K09
namespace TT
def M4 (l:AC)(v:Nat):AC:=l.filter λx=>decide (x≠v)
theorem witB_mem:x∈M4 l v↔x∈l/\x≠v:=by unfold M4;rw[Bf,Ak]
theorem cT9 (nd:(p++v::s).Nodup):M4 (p++v::s) v=p++s:=by
 have h:=Aa4.mp nd
 have hp:v∉p:=λz=>h.2.2 v z v (by simp) rfl
 have j:v∉s:=(Aa5.mp h.2.1).1
 have f:∀l:AC,v∉l->l.filter (λx=>decide (x≠v))=l:=λl r=>List.filter_eq_self.mpr λa w=>Bc λe=>r (e▸w)
 unfold M4;rw[Cu,f p hp,List.filter_cons,Ab (by simp),f s j]
theorem S6 (h:v∈l)(nd:l.Nodup):(M4 l v).length+1=l.length:=by
 obtain⟨p,s,rfl,_⟩:=aD3 h;rw[cT9 nd];simp;lia
theorem aV7 (nd:l.Nodup):(M4 l v).Nodup:=nd.filter _
theorem bA8 (nd:l.Nodup)(M:adj l b v)(N:adj l v c)(hbc:b≠c)(x y:Nat):adj (M4 l v) x y↔(x=b/\y=c)\/(adj l x y/\x≠v/\y≠v):=by
 obtain⟨p,s,rfl,hp⟩:=aD3 (C6 M).2;rw[cT9 nd];rw[<- p8 p (v::s)]at M N ⊢;rw[<- p8 p s];have U:((v::s)++p).Nodup:=(Cq.nodup_iff).mp nd;rw[show(v::s)++p=v::(s++p) from rfl]at U M N ⊢
 cases ht:s++p with
 | nil=>
  rw[ht]at M N U;have h1:=(C6 M).1;have h2:=(C6 N).2;simp at h1 h2;exact absurd (h1.trans h2.symm) hbc
 | cons J t=>
  rw[ht]at U M N;have F:v∉J::t:=(Aa5.mp U).1;have P:∀u w,adj (v::J::t) u w↔(u=v/\w=J)\/lin (J::t++[v]) u w:=λu w=>D1 v J (t++[v]) u w
  have B:∀u w,lin (J::t++[v]) u w->u≠v:=λu w z e=>by
   have:=T7 (u:=J::t) (c:=v) z
   rw[e]at this;exact F this
  have ec:c=J:=by
   rcases (P v c).mp N with z | z
   .exact z.2
   .exact absurd rfl (B _ _ z)
  subst ec;obtain⟨R,j,Q⟩:∃R j,c::t=R++[j]:=⟨_,_,(List.dropLast_concat_getLast (by simp)).symm⟩
  have r:∀(w:Nat) (Y X:Nat),lin (R++[j,w]) Y X↔lin (R++[j]) Y X\/(Y=j/\X=w):=λw Y X=>by
   clear Q ht P B F U M N
   induction R with
   | nil=>show lin [j,w] Y X↔lin [j] Y X\/_;rw[D1,p7,p7];simp
   | cons z t'' ih=>
    cases t'' with
    | nil=>show lin [z,j,w] Y X↔lin [z,j] Y X\/_;rw[D1,D1,D1,p7,p7];simp[or_assoc]
    | cons z' t3=>
     show lin (z::z'::(t3++[j,w])) Y X↔lin (z::z'::(t3++[j])) Y X\/_
     rw[D1,D1 z];have ih:lin (z'::(t3++[j,w])) Y X↔lin (z'::(t3++[j])) Y X\/(Y=j/\X=w):=ih;rw[ih,or_assoc]
  have e1:c::t++[v]=R++[j,v]:=by rw[Q];simp
  have e2:adj (c::t) x y↔lin (R++[j,c]) x y:=by
   show lin (c::t++[c]) x y↔_
   rw[Q];simp
  have eb:b=j:=by
   rcases (P b v).mp M with z | z
   .exact absurd z.2.symm (λe=>F (by rw[<- e];simp))
   .rw[e1,r]at z;rcases z with z | z
    .have:=r6 z
     rw[<- Q]at this;exact absurd this.2 F
    .exact z.1
  subst eb;rw[e2,r,P,e1,r];constructor
  .rintro (z | z)
   .refine .inr ⟨.inr (.inl z),?_,?_⟩
    .intro e;have:=(r6 z).1;rw[<- Q,e]at this;exact F this
    .intro e;have:=(r6 z).2;rw[<- Q,e]at this;exact F this
   .exact .inl z
  .rintro (z | ⟨z | z | z,h1,h2⟩)
   .exact .inr z
   .exact absurd z.1 h1
   .exact .inl z
   .exact absurd z.2 h2
theorem cE1 (nd:l.Nodup)(h1:adj l x y)(j:adj l y x):∀z∈l,z=x\/z=y:=by
 obtain⟨p,s,rfl,hp⟩:=aD3 (C6 h1).1;have w:((x::s)++p).Nodup:=(Cq.nodup_iff).mp nd;have J:∀z,z∈p++x::s->z∈(x::s)++p:=λz r=>(Cq.mem_iff).mp r
 rw[<- p8 p (x::s)]at h1 j;rw[show(x::s)++p=x::(s++p) from rfl]at w h1 j
 intro z r;have r:=J z r;rw[show(x::s)++p=x::(s++p) from rfl]at r
 cases Y:s++p with
 | nil=>rw[Y]at r;simp at r;exact .inl r
 | cons c t=>
  rw[Y]at w h1 j r;have e:y=c:=aA8 w h1 (.inl ⟨rfl,rfl⟩);subst e;cases t with
  | nil=>simpa using r
  | cons X M=>
   have U:x=X:=aA8 w j (.inr (.inl ⟨rfl,rfl⟩))
   subst U;simp at w
def Q5 (r:Nat->AC)(p q a b x:Nat):AC:=if x=p then M4 (r p) q else if x=q then M4 (r q) p else if x=a then L4 (r a) p b else if x=b then L4 (r b) q a else r x
section
variable {n:Nat}{r:Nat->AC}
structure Fl (r:Nat->AC)(p q a b:Nat):Prop where
 h:q∈r p
 ha:a=TT.th r p q
 hb:b=TT.th r q p
 hn:b∉r a
 hi:3<=p\/3<=q
variable {p q a b:Nat}
structure Fc (r:Nat->AC)(p q a b:Nat):Prop where
 p1:adj (r p) q a
 q1:adj (r q) a p
 a1:adj (r a) p q
 q2:adj (r q) p b
 p2:adj (r p) b q
 b2:adj (r b) q p
theorem Fl.fc (G:Good n r)(F:Fl r p q a b):Fc r p q a b:=by
 obtain⟨h,s,Y,_,_⟩:=F;have j:=G.sym h;have e:=G.th h;have w:=G.th j;rw[<- s]at e;rw[<- Y]at w;exact⟨e,G.tri _ _ _ e,G.tri _ _ _ (G.tri _ _ _ e),w,G.tri _ _ _ w,G.tri _ _ _ (G.tri _ _ _ w)⟩
theorem Fl.ne (G:Good n r)(F:Fl r p q a b):p≠q/\q≠a/\p≠a/\p≠b/\q≠b/\a≠b:=by
 have C:=F.fc G
 obtain⟨M,Y,X⟩:=G.th_ne F.h;obtain⟨_,U,J⟩:=G.th_ne (G.sym F.h);rw[<- F.ha]at Y X;rw[<- F.hb]at U J;refine⟨M,Y,X,U,J,λe=>?_⟩
 subst e;have R:=cE1 (G.nd p) C.p1 C.p2;have Q:=cE1 (G.nd q) C.q2 C.q1;have N:=cE1 (G.nd a) C.a1 C.b2;have lo:∀{x y:Nat},y∈r x->x<n:=λ{x y} z=>by
  rcases Dm x n with k | k
  .exact k
  .rw[G.hi x k]at z;cases z
 have cl:∀x y,(x=p\/x=q\/x=a)->y∈r x->(y=p\/y=q\/y=a):=λx y j w=>by
  rcases j with rfl | rfl | rfl
  .rcases R y w with e | e <;> simp[e]
  .rcases Q y w with e | e <;> simp[e]
  .rcases N y w with e | e <;> simp[e]
 have all:∀x,x<n->(x=p\/x=q\/x=a):=by
  by_cases s:(0=p\/0=q\/0=a)
  .exact G.conn (λx=>x=p\/x=q\/x=a) s cl
  .have:=G.conn (λx=>¬(x=p\/x=q\/x=a)) s (λx y j w z=>j (cl y x z (G.sym w))) p (lo F.h)
   exact absurd (.inl rfl) this
 have lp:=lo F.h
 have lq:=lo (G.sym F.h)
 have hi:=F.hi
 have B:=all 0 (by lia)
 have P:=all 1 (by lia)
 have a2:=all 2 (by lia)
 have a3:=all 3 (by lia)
 lia
theorem Good.flip (G:Good n r)(F:Fl r p q a b):Good n (Q5 r p q a b):=by
 have C:=F.fc G
 obtain⟨n1,n2,n3,n4,n5,M⟩:=F.ne G;have hnab:=F.hn;have hnba:a∉r b:=λz=>hnab (G.sym z)
 have hmax:=F.hi
 have lo:∀{x y:Nat},y∈r x->x<n:=λ{x y} z=>by
  rcases Dm x n with k | k
  .exact k
  .rw[G.hi x k]at z;cases z
 have m1:=(C6 C.p1).1
 have m1':=(C6 C.p1).2
 have m2:=(C6 C.q1).2
 have J:=(C6 C.a1).1
 have m3':=(C6 C.a1).2
 have B:=(C6 C.b2).1
 have m4':=(C6 C.b2).2
 have lp:=lo m1
 have lq:=lo m2
 have la:=lo J
 have lb:=lo B
 have rP:Q5 r p q a b p=M4 (r p) q:=Ac rfl
 have rQ:Q5 r p q a b q=M4 (r q) p:=by unfold Q5;rw[Ab (Ne.symm n1),Ac rfl]
 have P:Q5 r p q a b a=L4 (r a) p b:=by unfold Q5;rw[Ab (Ne.symm n3),Ab (Ne.symm n2),Ac rfl]
 have rB:Q5 r p q a b b=L4 (r b) q a:=by unfold Q5;rw[Ab (Ne.symm n4),Ab (Ne.symm n5),Ab (Ne.symm M),Ac rfl]
 have rO:∀x,x≠p->x≠q->x≠a->x≠b->Q5 r p q a b x=r x:=λx h0 h1 h2 h3=>by unfold Q5;rw[Ab h0,Ab h1,Ab h2,Ab h3]
 have two:∀{x y:Nat},y∈r x->2<=(r x).length:=λ{x y} z=>G.two x (lo z)
 have aP:=λx y=>bA8 (G.nd p) C.p2 C.p1 (Ne.symm M) x y
 have aQ:=λx y=>bA8 (G.nd q) C.q1 C.q2 M x y
 have aA:=λx y=>cZ0 (v:=b) (G.nd a) J (two J) C.a1 x y
 have aB:=λx y=>cZ0 (v:=a) (G.nd b) B (two B) C.b2 x y
 have cs:∀x,x=p\/x=q\/x=a\/x=b\/(x≠p/\x≠q/\x≠a/\x≠b):=λx=>by lia
 have keep:∀x y z,adj (r x) y z->¬((x=p/\(y=q\/z=q))\/(x=q/\(y=p\/z=p))\/(x=a/\y=p)\/(x=b/\y=q))->adj (Q5 r p q a b x) y z:=λx y z h l=>by
  rcases cs x with e | e | e | e | ⟨X,j,s,Y⟩
  .subst e;rw[rP,aP];exact .inr ⟨h,λw=>l (.inl ⟨rfl,.inl w⟩),λw=>l (.inl ⟨rfl,.inr w⟩)⟩
  .subst e;rw[rQ,aQ];exact .inr ⟨h,λw=>l (.inr (.inl ⟨rfl,.inl w⟩)),λw=>l (.inr (.inl ⟨rfl,.inr w⟩))⟩
  .subst e;rw[P,aA];exact .inr (.inr ⟨h,λw=>l (.inr (.inr (.inl ⟨rfl,w⟩)))⟩)
  .subst e;rw[rB,aB];exact .inr (.inr ⟨h,λw=>l (.inr (.inr (.inr ⟨rfl,w⟩)))⟩)
  .rw[rO x X j s Y];exact h
 have back:∀x y z,adj (r x) y z->((y=p/\(z=q\/x=q))\/(y=q/\(z=p\/x=p))\/(y=a/\z=p)\/(y=b/\z=q))->((x=p/\(y=q\/z=q))\/(x=q/\(y=p\/z=p))\/(x=a/\y=p)\/(x=b/\y=q)):=λx y z h l=>by
  have t:=G.tri _ _ _ h
  rcases l with⟨rfl,rfl | rfl⟩ | ⟨rfl,rfl | rfl⟩ | ⟨rfl,rfl⟩ | ⟨rfl,rfl⟩
  .exact .inr (.inr (.inl ⟨aA8 (G.nd _) t C.p1,rfl⟩))
  .exact .inr (.inl ⟨rfl,.inl rfl⟩)
  .exact .inr (.inr (.inr ⟨aA8 (G.nd _) t C.q2,rfl⟩))
  .exact .inl ⟨rfl,.inl rfl⟩
  .exact .inr (.inl ⟨aA8 (G.nd _) t C.a1,.inr rfl⟩)
  .exact .inl ⟨aA8 (G.nd _) t C.b2,.inr rfl⟩
 have N:∀x y z,adj (r x) y z->¬((x=p/\(y=q\/z=q))\/(x=q/\(y=p\/z=p))\/(x=a/\y=p)\/(x=b/\y=q))->adj (Q5 r p q a b y) z x:=λx y z h l=>keep y z x (G.tri _ _ _ h) λw=>l (back x y z h w)
 refine⟨λx=>?_,λx z=>?_,λx y z h=>?_,λx y z=>?_,λx hx=>?_,λx hx=>?_,?_,λR h0 hR x hx=>?_,?_,G.three⟩
 .rcases cs x with e | e | e | e | ⟨X,j,s,Y⟩
  .rw[e,rP];exact aV7 (G.nd _)
  .rw[e,rQ];exact aV7 (G.nd _)
  .rw[e,P];exact cV7 J (G.nd _) hnab
  .rw[e,rB];exact cV7 B (G.nd _) hnba
  .rw[rO x X j s Y];exact G.nd x
 .rcases cs x with e | e | e | e | ⟨X,j,s,Y⟩
  .rw[e,rP]at z;exact G.self _ (witB_mem.mp z).1
  .rw[e,rQ]at z;exact G.self _ (witB_mem.mp z).1
  .rw[e,P,aD4 J]at z;rcases z with z | z;exact M z;exact G.self _ z
  .rw[e,rB,aD4 B]at z;rcases z with z | z;exact M z.symm;exact G.self _ z
  .rw[rO x X j s Y]at z;exact G.self x z
 .rcases cs x with e | e | e | e | ⟨X,j,s,Y⟩
  .subst e;rw[rP,aP]at h;rcases h with⟨rfl,rfl⟩ | ⟨h,U,k2⟩
   .rw[rB,aB];exact .inr (.inl ⟨rfl,rfl⟩)
   .refine N _ _ _ h ?_;rintro (⟨_,w | w⟩ | ⟨w,_⟩ | ⟨w,_⟩ | ⟨w,_⟩)
    .exact U w
    .exact k2 w
    .exact n1 w
    .exact n3 w
    .exact n4 w
  .subst e;rw[rQ,aQ]at h;rcases h with⟨rfl,rfl⟩ | ⟨h,U,k2⟩
   .rw[P,aA];exact .inr (.inl ⟨rfl,rfl⟩)
   .refine N _ _ _ h ?_;rintro (⟨w,_⟩ | ⟨_,w | w⟩ | ⟨w,_⟩ | ⟨w,_⟩)
    .exact n1 w.symm
    .exact U w
    .exact k2 w
    .exact n2 w
    .exact n5 w
  .subst e;rw[P,aA]at h;rcases h with⟨rfl,rfl⟩ | ⟨rfl,rfl⟩ | ⟨h,U⟩
   .rw[rP,aP];exact .inl ⟨rfl,rfl⟩
   .rw[rB,aB];exact .inl ⟨rfl,rfl⟩
   .refine N _ _ _ h ?_;rintro (⟨w,_⟩ | ⟨w,_⟩ | ⟨_,w⟩ | ⟨w,_⟩)
    .exact n3 w.symm
    .exact n2 w.symm
    .exact U w
    .exact M w
  .subst e;rw[rB,aB]at h;rcases h with⟨rfl,rfl⟩ | ⟨rfl,rfl⟩ | ⟨h,U⟩
   .rw[rQ,aQ];exact .inl ⟨rfl,rfl⟩
   .rw[P,aA];exact .inl ⟨rfl,rfl⟩
   .refine N _ _ _ h ?_;rintro (⟨w,_⟩ | ⟨w,_⟩ | ⟨w,_⟩ | ⟨_,w⟩)
    .exact n4 w.symm
    .exact n5 w.symm
    .exact M w.symm
    .exact U w
  .rw[rO x X j s Y]at h;refine N _ _ _ h ?_;rintro (⟨w,_⟩ | ⟨w,_⟩ | ⟨w,_⟩ | ⟨w,_⟩)
   .exact X w
   .exact j w
   .exact s w
   .exact Y w
 .rcases cs x with e | e | e | e | ⟨X,j,s,Y⟩
  .rw[e,rP]at z;exact G.lt _ _ (witB_mem.mp z).1
  .rw[e,rQ]at z;exact G.lt _ _ (witB_mem.mp z).1
  .rw[e,P,aD4 J]at z;rcases z with z | z;lia;exact G.lt _ _ z
  .rw[e,rB,aD4 B]at z;rcases z with z | z;lia;exact G.lt _ _ z
  .rw[rO x X j s Y]at z;exact G.lt x _ z
 .rw[rO x (by lia) (by lia) (by lia) (by lia)];exact G.hi x hx
 .have more:∀{l:AC} {u v w:Nat},l.Nodup->u∈l->v∈l->w∈l->u≠v->v≠w->u≠w->3<=l.length:=λ{l u v w} nd hu hv hw h1 h2 h3=>by
   have j:=S6 hv nd
   have s:=S6 (witB_mem.mpr ⟨hu,h1⟩) (aV7 (v:=v) nd)
   have Y:=Cn (witB_mem.mpr ⟨witB_mem.mpr ⟨hw,Ne.symm h2⟩,Ne.symm h3⟩:w∈M4 (M4 l v) u)
   lia
  rcases cs x with e | e | e | e | ⟨X,j,s,Y⟩
  .rw[e,rP]
   have:=S6 m1 (G.nd p)
   have:=more (G.nd p) (C6 C.p2).1 m1 m1' (Ne.symm n5) n2 (Ne.symm M)
   lia
  .rw[e,rQ]
   have:=S6 m2 (G.nd q)
   have:=more (G.nd q) (C6 C.q1).1 m2 (C6 C.q2).2 (Ne.symm n3) n4 M
   lia
  .rw[e,P,y9 J];have:=two J;lia
  .rw[e,rB,y9 B];have:=two B;lia
  .rw[rO x X j s Y];exact G.two x hx
 .refine keep 2 1 0 G.out ?_;rintro (⟨w,k⟩ | ⟨w,k⟩ | ⟨w,k⟩ | ⟨w,k⟩)
  .lia
  .lia
  .subst w;have e:=aA8 (G.nd _) (k▸G.out) C.a1
   lia
  .subst w;have e:=aA8 (G.nd _) (k▸G.out) C.b2
   lia
 .have Q:∀u v,v∈r u->¬(u=p/\v=q)->¬(u=q/\v=p)->v∈Q5 r p q a b u:=λu v z U k2=>by
   rcases cs u with e | e | e | e | ⟨X,j,s,Y⟩
   .subst e;rw[rP];exact witB_mem.mpr ⟨z,λw=>U ⟨rfl,w⟩⟩
   .subst e;rw[rQ];exact witB_mem.mpr ⟨z,λw=>k2 ⟨rfl,w⟩⟩
   .subst e;rw[P];exact(aD4 J).mpr (.inr z)
   .subst e;rw[rB];exact(aD4 B).mpr (.inr z)
   .rw[rO u X j s Y];exact z
  refine G.conn R h0 (λu v hu hv=>?_) x hx
  by_cases U:u=p/\v=q
  .obtain⟨rfl,rfl⟩:=U;have ra:=hR u a hu (Q u a m1' (λw=>n2 w.2.symm) (λw=>n1 w.1))
   exact hR a v ra (Q a v m3' (λw=>n3 w.1.symm) (λw=>n2 w.1.symm))
  .by_cases k2:u=q/\v=p
   .obtain⟨rfl,rfl⟩:=k2;have ra:=hR u a hu (Q u a (C6 C.q1).1 (λw=>n1 w.1.symm) (λw=>n3 w.2.symm))
    exact hR a v ra (Q a v J (λw=>n3 w.1.symm) (λw=>n2 w.1.symm))
   .exact hR u v hu (Q u v hv U k2)
 .have hs:=G.sum
  have e:∀(k:Nat),((List.range k).map λx=>(Q5 r p q a b x).length).sum+((if p<k then 1 else 0)+(if q<k then 1 else 0))=((List.range k).map λx=>(r x).length).sum+((if a<k then 1 else 0)+(if b<k then 1 else 0)):=λk=>by
   induction k with
   | zero=>simp
   | succ k ih=>
    rw[Bh,Ad2,List.sum_append,Ad2,List.sum_append];simp only[Ac7,By,List.sum_cons,List.sum_nil,Nat.add_zero];have hk:(Q5 r p q a b k).length+((if p=k then 1 else 0)+(if q=k then 1 else 0))=(r k).length+((if a=k then 1 else 0)+(if b=k then 1 else 0)):=by
     rcases cs k with e | e | e | e | ⟨X,j,s,Y⟩
     .subst e;rw[rP,Ac rfl,Ab (Ne.symm n1),Ab (Ne.symm n3),Ab (Ne.symm n4)];have:=S6 m1 (G.nd k);lia
     .subst e;rw[rQ,Ab n1,Ac rfl,Ab (Ne.symm n2),Ab (Ne.symm n5)];have:=S6 m2 (G.nd k);lia
     .subst e;rw[P,Ab n3,Ab n2,Ac rfl,Ab (Ne.symm M),y9 J]
     .subst e;rw[rB,Ab n4,Ab n5,Ab M,Ac rfl,y9 B]
     .rw[rO k X j s Y,Ab (Ne.symm X),Ab (Ne.symm j),Ab (Ne.symm s),Ab (Ne.symm Y)]
    have st:∀u:Nat,(if u<k+1 then 1 else 0)=(if u<k then 1 else 0)+(if u=k then 1 else 0):=λu=>by
     split <;> split <;> split <;> lia
    rw[st p,st q,st a,st b]
    lia
  have:=e n
  rw[Ac lp,Ac lq,Ac la,Ac lb]at this
  lia
end
section
variable {n:Nat}{r:Nat->AC}{x y z:Nat}
def aI7 (r:Nat->AC)(n q:Nat):AC:=if q=n then [] else M4 (r q) n
theorem bB0 (h:v∉l):M4 l v=l:=List.filter_eq_self.mpr λa w=>Bc λe=>h (e▸w)
structure Tkn (n:Nat)(r:Nat->AC)(x y z:Nat):Prop where
 h3:3<=n
 row:r n=[x,y,z]
structure Tcn (n:Nat)(r:Nat->AC)(x y z:Nat):Prop where
 n1:x≠y
 n2:y≠z
 n3:x≠z
 xn:x<n
 yn:y<n
 zn:z<n
 x1:adj (r x) y n
 x2:adj (r x) n z
 y1:adj (r y) z n
 y2:adj (r y) n x
 z1:adj (r z) x n
 z2:adj (r z) n y
 o:∀q,q≠n->q≠x->q≠y->q≠z->n∉r q
theorem Tkn.tc (G:Good (n+1) r)(K:Tkn n r x y z):Tcn n r x y z:=by
 have nd:=G.nd n
 rw[K.row]at nd;simp at nd;have m:∀w,w∈r n↔w=x\/w=y\/w=z:=λw=>by rw[K.row];simp
 have lt:∀w,w∈r n->w<n:=λw U=>by
  have h1:=G.lt n w U
  have X:w≠n:=λe=>G.self n (e▸U)
  lia
 have j:adj (r n) x y:=by rw[K.row,eO4];exact .inl ⟨rfl,rfl⟩
 have s:adj (r n) y z:=by rw[K.row,eO4];exact .inr (.inl ⟨rfl,rfl⟩)
 have Y:adj (r n) z x:=by rw[K.row,eO4];exact .inr (.inr ⟨rfl,rfl⟩)
 refine⟨nd.1.1,nd.2,nd.1.2,lt x ((m x).mpr (.inl rfl)),lt y ((m y).mpr (.inr (.inl rfl))),lt z ((m z).mpr (.inr (.inr rfl))),G.tri _ _ _ j,G.tri _ _ _ (G.tri _ _ _ Y),G.tri _ _ _ s,G.tri _ _ _ (G.tri _ _ _ j),G.tri _ _ _ Y,G.tri _ _ _ (G.tri _ _ _ s),λq N h1 X J M=>?_⟩
 rcases (m q).mp (G.sym M) with e | e | e
 .exact h1 e
 .exact X e
 .exact J e
theorem Good.take (G:Good (n+1) r)(K:Tkn n r x y z):Good n (aI7 r n):=by
 have C:=K.tc G
 have h3:=K.h3
 have rN:aI7 r n n=[]:=Ac rfl
 have s:∀q,q≠n->aI7 r n q=M4 (r q) n:=λq h=>Ab h
 have rO:∀q,q≠n->q≠x->q≠y->q≠z->aI7 r n q=r q:=λq X h1 U h3=>by rw[s q X,bB0 (C.o q X h1 U h3)]
 have n1:=C.n1
 have n2:=C.n2
 have n3:=C.n3
 have xn:=C.xn
 have yn:=C.yn
 have zn:=C.zn
 have aX:=λu v=>bA8 (G.nd x) C.x1 C.x2 n2 u v
 have aY:=λu v=>bA8 (G.nd y) C.y1 C.y2 (Ne.symm n3) u v
 have aZ:=λu v=>bA8 (G.nd z) C.z1 C.z2 n1 u v
 have cs:∀q,q=n\/q=x\/q=y\/q=z\/(q≠n/\q≠x/\q≠y/\q≠z):=λq=>by lia
 have mem:∀q w,w∈aI7 r n q↔q≠n/\w∈r q/\w≠n:=λq w=>by
  by_cases e:q=n
  .rw[e,rN];simp
  .rw[s q e,witB_mem];exact⟨λz=>⟨e,z⟩,λz=>z.2⟩
 have keep:∀q u v,q≠n->u≠n->v≠n->adj (r q) u v->adj (aI7 r n q) u v:=λq u v X h1 U h=>by
  rw[s q X];rcases cs q with e | e | e | e | ⟨F,N,J,M⟩
  .exact absurd e X
  .subst e;rw[aX];exact .inr ⟨h,h1,U⟩
  .subst e;rw[aY];exact .inr ⟨h,h1,U⟩
  .subst e;rw[aZ];exact .inr ⟨h,h1,U⟩
  .rw[bB0 (C.o q F N J M)];exact h
 have jX:adj (aI7 r n x) y z:=by rw[s x (by lia),aX];exact .inl ⟨rfl,rfl⟩
 have jY:adj (aI7 r n y) z x:=by rw[s y (by lia),aY];exact .inl ⟨rfl,rfl⟩
 have jZ:adj (aI7 r n z) x y:=by rw[s z (by lia),aZ];exact .inl ⟨rfl,rfl⟩
 have B:∀q,q≠n->∀u v,adj (aI7 r n q) u v->(q=x/\u=y/\v=z)\/(q=y/\u=z/\v=x)\/(q=z/\u=x/\v=y)\/(adj (r q) u v/\u≠n/\v≠n):=λq X u v h=>by
  rw[s q X]at h;rcases cs q with e | e | e | e | ⟨F,N,J,M⟩
  .exact absurd e X
  .subst e;rw[aX]at h;exact h.elim (λz=>.inl ⟨rfl,z⟩) (λz=>.inr (.inr (.inr z)))
  .subst e;rw[aY]at h;exact h.elim (λz=>.inr (.inl ⟨rfl,z⟩)) (λz=>.inr (.inr (.inr z)))
  .subst e;rw[aZ]at h;exact h.elim (λz=>.inr (.inr (.inl ⟨rfl,z⟩))) (λz=>.inr (.inr (.inr z)))
  .have hn:=C.o q F N J M
   rw[bB0 hn]at h;exact .inr (.inr (.inr ⟨h,λe=>hn (e▸(C6 h).1),λe=>hn (e▸(C6 h).2)⟩))
 have q0:∀q u,u∈aI7 r n q->q≠n:=λq u h=>((mem q u).mp h).1
 refine⟨λq=>?_,λq h=>G.self q ((mem q q).mp h).2.1,λq u v h=>?_,λq w h=>?_,λq hq=>?_,λq hq=>?_,?_,λR X hR q hq=>?_,?_,h3⟩
 .by_cases e:q=n
  .rw[e,rN];simp
  .rw[s q e];exact aV7 (G.nd q)
 .have hq:=q0 q u (C6 h).1
  rcases B q hq u v h with⟨rfl,rfl,rfl⟩ | ⟨rfl,rfl,rfl⟩ | ⟨rfl,rfl,rfl⟩ | ⟨h,k1,k2⟩
  .exact jY
  .exact jZ
  .exact jX
  .exact keep u v q k1 k2 hq (G.tri _ _ _ h)
 .have:=(mem q w).mp h
  have:=G.lt q w this.2.1
  lia
 .by_cases e:q=n
  .rw[e,rN]
  .rw[s q e,G.hi q (by lia)];rfl
 .rw[s q (by lia)]
  have Y:∀{l:AC} {u w:Nat},l.Nodup->u∈l->n∈l->w∈l->u≠n->n≠w->u≠w->2<=(M4 l n).length:=λ{l u w} nd hu Q hw h1 U h3=>by
   have J:=S6 (witB_mem.mpr ⟨hu,h1⟩) (aV7 (v:=n) nd)
   have M:=Cn (witB_mem.mpr ⟨witB_mem.mpr ⟨hw,Ne.symm U⟩,Ne.symm h3⟩:w∈M4 (M4 l n) u)
   lia
  rcases cs q with e | e | e | e | ⟨F,N,J,M⟩
  .lia
  .rw[e];exact Y (G.nd x) (C6 C.x1).1 (C6 C.x1).2 (C6 C.x2).2 (by lia) (by lia) n2
  .rw[e];exact Y (G.nd y) (C6 C.y1).1 (C6 C.y1).2 (C6 C.y2).2 (by lia) (by lia) (Ne.symm n3)
  .rw[e];exact Y (G.nd z) (C6 C.z1).1 (C6 C.z1).2 (C6 C.z2).2 (by lia) (by lia) n1
  .rw[bB0 (C.o q F N J M)];exact G.two q (by lia)
 .exact keep 2 1 0 (by lia) (by lia) (by lia) G.out
 .have all:=G.conn (λw=>if w=n then R x else R w) (by show(if 0=n then R x else R 0);rw[Ab (by lia)];exact X) (λu v hu Q=>?_) q (by lia)
  .have all:(if q=n then R x else R q):=all
   rw[Ab (by lia)]at all;exact all
  .show(if v=n then R x else R v)
   have j:(if u=n then R x else R u):=hu
   by_cases P:u=n
   .rw[Ac P]at j;subst P;have hvn:v≠u:=λe=>G.self u (by rw[e]at Q;exact Q)
    rw[Ab hvn];rw[K.row]at Q;simp at Q;rcases Q with rfl | rfl | rfl
    .exact j
    .exact hR x v j (C6 jX).1
    .exact hR x v j (C6 jX).2
   .rw[Ab P]at j;by_cases ev:v=n
    .rw[Ac ev];subst ev;by_cases h1:u=x
     .exact h1▸j
     .by_cases U:u=y
      .exact hR u x j (by rw[U];exact(C6 jY).2)
      .by_cases h4:u=z
       .exact hR u x j (by rw[h4];exact(C6 jZ).1)
       .exact absurd Q (C.o u P h1 U h4)
    .rw[Ab ev];exact hR u v j ((mem u v).mpr ⟨P,Q,ev⟩)
 .have hs:=G.sum
  rw[Bh,Ad2,List.sum_append]at hs;simp only[Ac7,By,List.sum_cons,List.sum_nil,Nat.add_zero,K.row,Av,List.length_nil]at hs;have e:∀(k:Nat),k<=n->((List.range k).map λq=>(aI7 r n q).length).sum+((if x<k then 1 else 0)+(if y<k then 1 else 0)+(if z<k then 1 else 0))=((List.range k).map λq=>(r q).length).sum:=λk=>by
   induction k with
   | zero=>intro _;simp
   | succ k ih=>
    intro hk;have ih:=ih (by lia)
    rw[Bh,Ad2,List.sum_append,Ad2,List.sum_append];simp only[Ac7,By,List.sum_cons,List.sum_nil,Nat.add_zero];have hk':(aI7 r n k).length+((if x=k then 1 else 0)+(if y=k then 1 else 0)+(if z=k then 1 else 0))=(r k).length:=by
     rcases cs k with e | e | e | e | ⟨F,N,J,M⟩
     .lia
     .subst e;rw[s k (by lia),Ac rfl,Ab (Ne.symm n1),Ab (Ne.symm n3)];have:=S6 (C6 C.x1).2 (G.nd k);lia
     .subst e;rw[s k (by lia),Ab n1,Ac rfl,Ab (Ne.symm n2)];have:=S6 (C6 C.y1).2 (G.nd k);lia
     .subst e;rw[s k (by lia),Ab n3,Ab n2,Ac rfl];have:=S6 (C6 C.z1).2 (G.nd k);lia
     .rw[rO k F N J M,Ab (Ne.symm N),Ab (Ne.symm J),Ab (Ne.symm M)];lia
    have st:∀u:Nat,(if u<k+1 then 1 else 0)=(if u<k then 1 else 0)+(if u=k then 1 else 0):=λu=>by
     split <;> split <;> split <;> lia
    rw[st x,st y,st z]
    lia
  have:=e n (Aa7 _)
  rw[Ac xn,Ac yn,Ac zn]at this
  lia
end
theorem dA6 (nd:l.Nodup)(J:B5 l=l)(F:∀x∈l,x<=v)(j:M4 l v≠[]):B5 (M4 l v)=M4 l v:=by
 by_cases s:v∈l
 .have M:l≠[]:=λz=>by rw[z]at s;cases s
  obtain⟨t,U⟩:=cP3 M;rw[J]at U;obtain⟨m1,N⟩:=aO7 M;obtain⟨w,B⟩:∃w,w∈M4 l v:=by
   cases h:M4 l v with
   | nil=>exact absurd h j
   | cons w t=>exact⟨w,by simp⟩
  obtain⟨R,w2⟩:=witB_mem.mp B;have r:mn l≠v:=λe=>by
   have h1:=N w R
   have Q:=F w R
   exact w2 (by lia)
  have X:M4 l v=mn l::M4 t v:=by
   rw[show M4 l v=M4 (mn l::t) v by rw[<- U]]
   show List.filter _ (mn l::t)=_
   rw[List.filter_cons,Ac (Bc r)];rfl
  have Y:mn (M4 l v)=mn l:=by
   obtain⟨P,k2⟩:=aO7 j;have h1:=k2 (mn l) (witB_mem.mpr ⟨m1,r⟩);have Q:=N _ (witB_mem.mp P).1
   lia
  have:=aK2 (a:=[]) (z:=mn l) (b:=M4 t v) (by simp) (by show mn (mn l::M4 t v)=_;rw[<- X,Y])
  rw[X];simpa using this
 .rw[bB0 s];exact J
end TT
set_option maxHeartbeats 1000000
namespace K09
open PySem L2 LV PyProof.Rows
theorem dZ4:B8 ["drawing", "p", "q"] ["drawing", "p", "q"] (A9 cP1):={}
theorem cO1:B8 ["drawing", "p", "q"] ["drawing", "p", "q"] (A9 bE2):={}
theorem bJ2:B8 ["drawing", "p", "q"] ["drawing", "p", "q"] (A9 u5):={}
theorem cC5:B8 ["self", "p", "q"] ["self", "p", "q"] (A9 aI9):={}
theorem o8:B8 ["self", "drawing", "r", "s"] ["self", "drawing"] (A9 y6):={}
theorem Z7:B8 ["self", "drawing", "pair", "r", "s", "changes"] ["self", "drawing"] (A9 aN6):={}
theorem aV2:B8 ["self", "drawing", "pair"] ["self", "drawing"] (A9 aM1):={}
theorem cM4:B8 ["told"] ["told"] (A9 bD7):={}
theorem aQ5:B8 ["_law_turns", "_law_p", "_law_q", "_law_turn"] ["_law_turns", "_law_p", "_law_q"] (A9 aG7):={}
theorem V8:B8 ["_law_turns", "_law_found", "_law_p", "_law_q", "_law_r"] ["_law_turns"] (A9 aE5):={}
def eQ7 (ds:AF)(d:PyData):Prop:=∃(m:Nat) (dr tr:AA) (p q:Nat),Dw m dr tr/\q∈TT.trn dr p/\ds=[tD dr,.int (p:Int),.int (q:Int)]/\d=.int (TT.th (TT.trn dr) p q:Nat)
def okG (r:Nat->AC)(x:Nat×Nat):Bool:=decide (W6 r x≠[0,2,1])&&TT.low r x
def loF (r:Nat->AC)(ps:List (Nat×Nat)):AA:=(ps.filter (okG r)).map (W6 r)
def loL (m:Nat)(dr:AA):AB:=cA1 ((loF (TT.trn dr) (TT.gps (TT.trn dr) (m+3))).map cL)
def cC3 (ds es:AF):Prop:=∃(m:Nat) (dr tr:AA),Dw m dr tr/\ds=[tD dr]/\es=(loL m dr).map tI
theorem eI5 (r:Nat->AC)(ps:List (Nat×Nat)):(loF r ps).length<=ps.length:=by unfold loF;rw[Aa3];exact List.length_filter_le _ _
theorem eO5 (e:Dw m dr tr):(loF (TT.trn dr) (TT.gps (TT.trn dr) (m+3))).length<=20:=by
 have r:=e.good.rds_len
 have w:=e.m7
 have:(loF (TT.trn dr) (TT.gps (TT.trn dr) (m+3))).length<=(TT.rds (TT.trn dr) (m+3)).length:=by
  unfold loF TT.rds okG;rw[Aa3,Aa3,<- List.filter_filter];exact List.length_filter_le _ _
 lia
theorem dY3 (Y:Dw m dr tr)(h:t∈loL m dr):∃x y z:Nat,t=cL [x,y,z]/\Lb m dr x y z:=by
 unfold loL at h;rw[(U7 _).mem_iff]at h;obtain⟨l,w,rfl⟩:=Aa8.mp h;unfold loF at w;obtain⟨v,s,rfl⟩:=Aa8.mp w;obtain⟨h1,e⟩:=Bf.mp s;unfold okG at e;obtain⟨r,j⟩:=Bool.and_eq_true_iff.mp e;refine⟨v.1,v.2,TT.th (TT.trn dr) v.1 v.2,rfl,(mem_gps.mp h1).2,rfl,?_⟩;rw[bC1 j];exact Aj r
theorem eK9 (Y:Dw m dr tr):loL m dr≠[]:=λe=>by
 have G:=Y.good
 have w:=G.rds_len
 have r:∀l∈TT.rds (TT.trn dr) (m+3),l=[0,2,1]:=λl s=>by
  unfold TT.rds at s;obtain⟨v,M,rfl⟩:=Aa8.mp s;obtain⟨h1,J⟩:=Bf.mp M;refine Classical.byContradiction λj=>?_
  have:cL (W6 (TT.trn dr) v)∈loL m dr:=by
   unfold loL;rw[(U7 _).mem_iff];refine Aa8.mpr ⟨_,Aa8.mpr ⟨v,Bf.mpr ⟨h1,?_⟩,rfl⟩,rfl⟩;unfold okG;rw[J,Bool.and_true];exact Bc j
  rw[e]at this;cases this
 have nd:=G.rds_nd
 match hr:TT.rds (TT.trn dr) (m+3) with
 | []=>rw[hr]at w;simp at w;lia
 | [l]=>rw[hr]at w;simp at w;lia
 | l1::l2::L=>
  rw[hr]at r nd;have X:=r l1 (by simp)
  have U:=r l2 (by simp)
  rw[X,U]at nd;simp at nd
def fD (C:Addr)(p q:Nat):PyData:=inD C [("p",(p:Int)),("q",(q:Int))]
def aR0 (m:Nat)(dr:AA)(p q u v:Nat):AA:=(List.range (m+3)).map λx=>TT.B5 (TT.Q5 (TT.trn dr) p q u v x)
def kv4 (dr:AA)(p q u v:Nat):List (Nat×AC):=[(p,TT.M4 (TT.trn dr p) q),(q,TT.M4 (TT.trn dr q) p),(u,TT.L4 (TT.trn dr u) p v),(v,TT.L4 (TT.trn dr v) q u)]
theorem dU8 (s:dr.length=m+3)(p q u v:Nat):wt dr (kv4 dr p q u v)=aR0 m dr p q u v:=by
 unfold aR0 wt;refine List.ext_getElem? λi=>?_
 rw[List.getElem?_mapIdx,Aa9];by_cases hi:i<m+3
 .rw[N5 (by lia),List.getElem?_range hi]
  show some (TT.B5 ((lk (kv4 dr p q u v) i).getD (TT.trn dr i)))=some (TT.B5 (TT.Q5 (TT.trn dr) p q u v i))
  congr 2
  unfold TT.Q5 lk kv4;by_cases e:i=p
  .subst e;simp
  .rw[Ab e];by_cases w:i=q
   .subst w;simp[Aq,Ne.symm e]
   .rw[Ab w];by_cases r:i=u
    .subst r;simp[Aq,Ne.symm e,Ne.symm w]
    .rw[Ab r];by_cases j:i=v
     .subst j;simp[Aq,Ne.symm e,Ne.symm w,Ne.symm r]
     .rw[Ab j];simp[Aq,Ne.symm e,Ne.symm w,Ne.symm r,Ne.symm j]
 .rw[Ad6 (by lia),Ad6 (by simp;lia)];rfl
def eS8 (C:Addr)(ds:AF)(d:PyData):Prop:=∃(m:Nat) (dr tr:AA) (p q u v:Nat),Dw m dr tr/\TT.Fl (TT.trn dr) p q u v/\ds=[fD C p q,tD dr]/\d=tN [u,v]
def eB8 (C:Addr)(ds:AF)(d:PyData):Prop:=∃(m:Nat) (dr tr:AA) (p q u v:Nat),Dw m dr tr/\TT.Fl (TT.trn dr) p q u v/\ds=[fD C p q,tD dr]/\d=.tuple ((aR0 m dr p q u v).map tN)
def eC7 (C:Addr)(ds:AF)(d:PyData):Prop:=∃(m:Nat) (dr tr:AA) (p q u v:Nat),Dw m dr tr/\TT.Fl (TT.trn dr) p q u v/\ds=[fD C p q,tD dr]/\d=fD C u v
section
variable {P:Program}{w:World}{K:Frag}{mg:Str->Option Value}{base:Heap}{a:Ad}
theorem cE3 (T:Tx K mg a):FnOk P w K mg base CX0 1 a.dH8 a.dR4 ["drawing", "p", "q"] (spV K cV9):=by
 refine T.cE2.F.ok dZ4 (Y7 λds d ⟨_,_,_,e,_⟩=>by rw[e];rfl) (λJ A Y s H vs Q E N h=>?_)
 obtain⟨ds,S,d,M,r,⟨dr,p,q,rfl,rfl⟩,k⟩:=h;refine⟨_,(A7 (B7 (cQ2 (dH5 eV1 aR2 A4 (pv 1) (C0 (aD7 K) (by rfl) T.O9 Am (A0 (pv 0) A2))) (bZ9 (bK4 (dS5 K N) (pv 2) (B4 (ixK K) (pv 0) (pv 1) (λ_ _=>rfl)) rfl))))),M0 M r ?_ k⟩
 refine E9 (d:=.bool (td dr p q)) ?_ rfl;have U:(dr.map tN).length=dr.length:=Aa3 _;have h:=dD9 (K:=K) (m:=true) (ρ:=sl0 ["drawing", "p", "q"].length [tD dr,.int p,.int q]) (b:=decide (q∈(TT.trn dr p.toNat).map λ(x:Nat)=>(x:Int))) (dT6 (r:=rI0 λi j=>.bl (decide (i<=j))) (r':=rI0 λi j=>.bl (decide (i<j))) (g:=λi j=>decide (i<=j)) (g':=λi j=>decide (i<j)) (A6 (i:=0)) v1 (M9 (ds:=dr.map tN) (A1 v0 A5))) (λh=>by
  rw[U]at h;have X:=Ap _ _▸h;have h1:(0:Int)<=p:=Aj X.1;have R:p<(dr.length:Int):=Aj X.2;have e:=eF1 (K:=K) (m:=false) (ρ:=sl0 ["drawing", "p", "q"].length [tD dr,.int p,.int q]) v2 (C9 (d':=tN (TT.trn dr p.toNat)) (ds:=dr.map tN) v0 v1 rfl (S1 p.toNat (by lia) (by rw[Aa9,N5 (by lia)];rfl))) (ds:=nI (TT.trn dr p.toNat)) rfl (bX9 _) (by rw[aI1];exact(V1 _).fit)
  rw[cP6]at e;exact e)
 rw[U]at h;exact h
theorem eA7 (T:Tx K mg a):FnOk P w K mg base CX0 2 a.bU7 a.bV7 ["drawing", "p", "q"] (spV K dF4):=by
 have Y := @cE3 P w K mg base a T
 have j := @cK6 P w K mg base a T
 refine T.bG4.F.ok cO1 (Y7 λds d ⟨_,_,_,_,_,_,_,e,_⟩=>by rw[e];rfl) (λcdv A N s H vs Q E R h=>?_)
 obtain⟨ds,S,d,hS,r,⟨m,dr,tr,p,U,X,J,rfl,rfl⟩,q⟩:=h;refine⟨_,(A3 (L6 (aT6 (y7 (pcl Y R T.cE2 (A0 (pv 0) (A0 (pv 1) (A0 (pv 2) A2)))))) dD8 E1)
   (A7 (B7 (pcl j R T.aS2 (A0 (B4 (ixK K) (pv 0) (pv 2) (λ_ _=>rfl)) (A0 (pv 1) A2)))))),M0 hS r ?_ q⟩
 have G:=X.good
 have B:=G.sym J
 have lp:=X.lt J
 have lq:=X.lt B
 have M:td dr (p:Int) (U:Int)=true:=by
  unfold td
  have:=X.len
  simp only[Ap,Ak,Ac8];exact⟨⟨by lia,by lia⟩,Aa8.mpr ⟨U,J,rfl⟩⟩
 refine A8 (K9 (b := !true) (bI2 (t_b (C3 (d:=.bool true) (A1 v0 (A1 v1 (A1 v2 A5))) ⟨dr,p,U,rfl,by rw[M]⟩))) (λh=>by cases h) (λh=>E2 ?_))
 exact E9 (C3 (A1 (C9 (ds:=dr.map tN) v0 v2 rfl (X.at_ lq)) (A1 v1 A5)) ⟨TT.trn dr U,p,B,by have:=X.tle U;lia,rfl,rfl⟩) rfl
theorem eQ6 (T:Tx K mg a):FnOk P w K mg base CX0 2 a.aM2 a.aM4 ["drawing", "p", "q"] (spV K dK3):=by
 have Y := @cE3 P w K mg base a T
 refine T.aK6.F.ok bJ2 (Y7 λds d ⟨_,_,_,e,_⟩=>by rw[e];rfl) (λU A X s H vs Q E M h=>?_)
 obtain⟨ds,S,d,J,r,⟨dr,p,q,rfl,rfl⟩,k⟩:=h;obtain⟨j,N⟩:=T.t9;refine⟨_,(A7 (B7 (cQ2 (pcl Y M T.cE2 (A0 (pv 0) (A0 (pv 1) (A0 (pv 2) A2)))) (bZ9 (bK4 dN7 (C0 (cZ8 rfl) (by rfl) T.dQ3 boot_max (A0 (pv 1) (A0 (pv 2) A2))) (P8 (v:=.int 3) rfl N ⟨j,rfl⟩) (D8 _)))))),M0 J r ?_ k⟩
 exact E9 (dD9 (C3 (A1 (B0 rfl) (A1 (B0 rfl) (A1 (B0 rfl) A5))) ⟨dr,p,q,rfl,rfl⟩) λh=>(z4 (eH2 (A1 (B0 rfl) (A1 (B0 rfl) A5))) A6)) rfl
theorem eE8 (T:Tx K mg a):FnOk P w K mg base CX0 1 a.bB9 a.bB3 ["_law_turns", "_law_p", "_law_q"] (spV K eQ7):=by
 refine T.p9.F.ok aQ5 (Y7 λds d ⟨_,_,_,_,_,_,_,e,_⟩=>by rw[e];rfl) (λM A J s H vs Q E B h=>?_)
 obtain⟨ds,S,d,N,r,⟨m,dr,tr,p,Y,X,R,rfl,rfl⟩,q⟩:=h;refine⟨_,(A3 (psS 3 aQ5 (B4 (ixK K) (pv 0) (pv 2) (λ_ _=>rfl)))
   (A7 (B7 (B4 (ixK K) (pv 3) (B1 S2 (S7 PySem.F.plainAttrs_tuple PySem.F.slot_tuple_index PySem.F.type_tuple_index (aC8 K) (pv 3) (A0 (pv 1) A2)) A4) (λ_ _=>rfl))))),M0 N r ?_ q⟩
 have U:=X.good.sym R
 refine A8 (E5 (d:=tN (TT.trn dr Y)) (C9 (ds:=dr.map tN) v0 v2 rfl (X.at_ (X.lt U))) ?_);have h:=aK7 (K:=K) (m:=false) (ρ:=[vD dr,vI (p:Int),vI (Y:Int),.val (tI ((TT.trn dr Y).map λ(x:Nat)=>(x:Int)))]) (ta:=C7 3) (tb:=C7 1) (k:=(p:Int)) v3 v1 (Aa8.mpr ⟨p,U,rfl⟩)
 rw[aC1 p (TT.trn dr Y),<- aI1]at h;exact E9 (C9 (ds:=nI (TT.trn dr Y)) v3 (N4 (g:=λi j=>i-j) h A6) rfl (dG6 U)) rfl
theorem dQ2 (T:Tx K mg a):FnOk P w K mg base CX0 2 a.aW6 a.aU6 ["_law_turns"] (spL K cC3):=by
 have X := @eE8 P w K mg base a T
 refine T.aH5.F.ok V8 (cP0 (by rintro ds d ⟨_,_,_,_,e,_⟩;rw[e];rfl)) (λcdv A outer s H vs Q E hr h=>?_)
 obtain⟨ds,S,es,hS,r,⟨m,dr,tr,U,rfl,rfl⟩,q⟩:=h;refine⟨_,(A3 (psS 1 V8 (D6 A2))
   (A3 (S4 Ao rfl (N1 rfl T.O6 (A0 (C0 (aD7 K) (by rfl) T.O9 Am (A0 (pv 0) A2)) A2)) (pgN 2 V8) (A7 (S4 Ao rfl (aN4 (B4 (ixK K) (pv 0) (pv 2) (λ_ _=>rfl))) (pgN 3 V8) (A3 (psS 4 V8 (pcl X hr T.p9 (A0 (pv 0) (A0 (pv 2) (A0 (pv 3) A2)))))
   (A7 (L6 (PW.pt (bE8 (B9 aR2 (pv 2) (pv 3) (D8 _)) (bE8 (B9 aR2 (pv 2) (pv 4) (D8 _)) (bC3 (B9 (bN0 K hr) (H9 (A0 (pv 2) (A0 (pv 3) (A0 (pv 4) A2)))) (H9 (A0 A4 (A0 A4 (A0 A4 A2)))) (D8 _)))))) (A7 (L8 (S7 Ab1 Ag Af K7 (pv 1) (A0 (H9 (A0 (pv 2) (A0 (pv 3) (A0 (pv 4) A2)))) A2)))) E1))))))
   (A7 (B7 (C0 (aS9 K) (by rfl) T.aJ7 boot_sorted (A0 (pv 1) A2)))))),aS3 hS r ?_ q⟩
 have m7:=U.m7
 have hdl:=U.len
 have Gd:=U.good
 have hln:((dr.map tN).length:Int)=((m+3:Nat):Int):=by rw[Aa3,hdl]
 refine A8 (N2 (ds:=[]) (G3 A5) ?_ (show 1<5 by decide))
 refine A8 (Y5 (a8 (j:=((m+3:Nat):Int)) (A1 (by rw[<- hln];exact M9 (ds:=dr.map tN) (A1 v0 A5)) A5) (by lia) (by lia)) (λi ρ=>∃x2 J M,(x2.nb=true/\J.nb=true/\M.nb=true)/\ρ=[vD dr,.own ((loF (TT.trn dr) (TT.gps (TT.trn dr) i)).map tN),x2,J,M]) ⟨.no,.no,.no,⟨rfl,rfl,rfl⟩,rfl⟩ ?_ ?_)
 .rintro p d _ N ⟨x2,J,M,⟨_,b3,b4⟩,rfl⟩;obtain⟨rfl,hp⟩:=Z8 N;have hp:p<m+3:=by lia
  have tl:=U.tle p
  have h0:=U.plen p
  refine⟨_,F8,?_⟩;refine Y5 (bI8 (ds:=nI (TT.trn dr p)) (C9 (ds:=dr.map tN) v0 v2 rfl (U.at_ hp))) (λk ρ=>∃J M,(J.nb=true/\M.nb=true)/\ρ=[vD dr,.own ((loF (TT.trn dr) (pre (TT.trn dr) p k)).map tN),vI (p:Int),J,M]) ⟨J,M,⟨b3,b4⟩,by rw[cV6];rfl⟩ ?_ ?_
  .rintro k d _ N ⟨y3,y4,_,rfl⟩;unfold nI at N;rw[Aa9]at N;obtain⟨Y,B,rfl⟩:=Bx.mp N;have hq:=Bb B;refine⟨_,F8,?_⟩;refine A8 (E5 (d:=.int (TT.th (TT.trn dr) p Y:Nat)) (C3 (A1 v0 (A1 v2 (A1 v3 A5))) ⟨m,dr,tr,p,Y,U,hq,rfl,rfl⟩) ?_);show W K _ [vD dr,.own ((loF (TT.trn dr) (pre (TT.trn dr) p k)).map tN),vI (p:Int),vI (Y:Int),vI (TT.th (TT.trn dr) p Y:Nat)] _;have et:∀mm,LV.E K mm (cS5 (E7 (C7 2) (E7 (C7 3) (E7 (C7 4) R6)))) [vD dr,.own ((loF (TT.trn dr) (pre (TT.trn dr) p k)).map tN),vI (p:Int),vI (Y:Int),vI (TT.th (TT.trn dr) p Y:Nat)] (tN [p,Y,TT.th (TT.trn dr) p Y]):=λmm=>N3 (ds:=[.int (p:Int),.int (Y:Int),.int (TT.th (TT.trn dr) p Y:Nat)]) (A1 v2 (A1 v3 (A1 v4 A5)))
   have tt:=aQ2 (K:=K) (ρ:=[vD dr,.own ((loF (TT.trn dr) (pre (TT.trn dr) p k)).map tN),vI (p:Int),vI (Y:Int),vI (TT.th (TT.trn dr) p Y:Nat)]) (C1 (z4 (g:=λi j=>decide (i<j)) v2 v3)) λ_=>aQ2 (C1 (z4 (g:=λi j=>decide (i<j)) v2 v4)) λ_=>C1 (cK0 (d':=tI [0,2,1]) (et _) (N3 (A1 (A6 (i:=0)) (A1 (A6 (i:=2)) (A1 (A6 (i:=1)) A5)))) (dR2 _) ((V1 _).fit))
   have ee:(decide ((p:Int)<(Y:Int))&&(decide ((p:Int)<((TT.th (TT.trn dr) p Y:Nat):Int)) && !PyData.eqv (tN [p,Y,TT.th (TT.trn dr) p Y]) (tI [0,2,1])))=okG (TT.trn dr) (p,Y):=by
    unfold okG TT.low W6;rw[p5,aS6,Cm];have hc:(cL [p,Y,TT.th (TT.trn dr) p Y]=[0,2,1])↔([p,Y,TT.th (TT.trn dr) p Y]=[0,2,1]):=⟨λz=>cB9 (b:=[0,2,1]) z,λz=>by rw[z];rfl⟩
    simp only[Ap,Bool.not_eq_true',Ak,Bv,hc,ne_eq];constructor
    .rintro⟨h1,h2,h3⟩;exact⟨h3,by lia,by lia⟩
    .rintro⟨h3,h1,h2⟩;exact⟨by lia,by lia,h3⟩
   rw[ee]at tt;have R:=eC6 (TT.trn dr) B;have hpl:(pre (TT.trn dr) p k).length<=200:=by
    unfold pre;rw[Ab7,Aa3,Ad1];lia
   have hfl:=eI5 (TT.trn dr) (pre (TT.trn dr) p k)
   refine K9 tt (λh=>?_) (λh=>E2 ⟨.val (.int (Y:Int)),vI (TT.th (TT.trn dr) p Y:Nat),⟨rfl,rfl⟩,?_⟩)
   .refine V2 (i:=1) (d:=tN [p,Y,TT.th (TT.trn dr) p Y]) rfl (et _) (by rw[Aa3];unfold sizeLine;lia) ⟨.val (.int (Y:Int)),vI (TT.th (TT.trn dr) p Y:Nat),⟨rfl,rfl⟩,?_⟩
    show [_,Sl.own _,_,_,_]=[_,Sl.own _,_,_,_]
    rw[R];unfold loF;rw[Cu,List.filter_cons,Ac h,Ad2,Ad2];rfl
   .show [_,Sl.own _,_,_,_]=[_,Sl.own _,_,_,_]
    rw[R];unfold loF;rw[Cu,List.filter_cons,Ab (by rw[h];decide),List.filter_nil,Ba]
  .rintro _ ⟨y3,y4,⟨b3',b4'⟩,rfl⟩;refine⟨.val (.int (p:Int)),y3,y4,⟨rfl,b3',b4'⟩,?_⟩;rw[G5,bK8]
 .rintro _ ⟨x2,J,M,_,rfl⟩;rw[W2];have hll:=eO5 U;refine bF3 (bO7 (ts:=(loF (TT.trn dr) (TT.gps (TT.trn dr) (m+3))).map cL) (A1 (by rw[<- dI4];exact P6 (i:=1) rfl) A5) (λt ht=>?_) (by rw[Aa3];lia) (U7 _) (bW5 _)) rfl
  obtain⟨l,hl,rfl⟩:=Aa8.mp ht;unfold loF at hl;obtain⟨v,_,rfl⟩:=Aa8.mp hl
  simp[cL,W6]
theorem dL5 (T:Tx K mg a):FnOk P w K mg base CX0 1 a.Q7 a.X3 ["self", "p", "q"] (dU7 a.C5 ["p", "q"]):=by
 refine T.aA2.ok cC5 (by rintro vs H Q E ⟨x,dx,is,e,rfl,_⟩;simp[e]) (λY A r s H vs Q E U h=>?_)
 obtain⟨x,dx,is,e,rfl,X,q⟩:=h;obtain⟨i,j,rfl⟩:∃i j,is=[i,j]:=by
  match is,e with
  | [i,j],_=>exact⟨i,j,rfl⟩
 refine⟨_,(A3 (bF9 (pv 0) (pv 1) rfl)
   (A7 (bF9 (pv 0) (pv 2) rfl))),?_⟩
 refine⟨.int i,rfl,.ref x,rfl,x,_,dx,[],rfl,X,T.T0,T.aZ5,by decide,⟨.int j,rfl,.ref x,rfl,x,_,dx,_,rfl,C4,T.T0,T.aY2,(by show 1<1000;decide),?_⟩⟩
 show Q .non _
 rw[bK3];exact q
end
set_option maxHeartbeats 1000000
theorem cD2:B8 ["self", "pair"] ["self", "pair"] (A9 Y3):={}
theorem dD3:(aR0 m dr p q u v).length=m+3:=by simp[aR0]
structure Ft (r:Nat->AC)(p q u v:Nat):Prop where
 h:q∈r p
 ha:u=TT.th r p q
 hb:v=TT.th r q p
 hi:3<=p\/3<=q
theorem Ft.fl (f:Ft r p q u v)(h:v∉r u):TT.Fl r p q u v:=⟨f.h,f.ha,f.hb,h,f.hi⟩
def fI (C:Addr)(p q:Int):PyData:=inD C [("p",p),("q",q)]
def cI0 (CF CT CN:Addr)(ds:AF)(C:Addr)(fs:List (Str×PyData)):Prop:=(C=CT/\∃(m:Nat) (dr tr:AA) (p q u v:Nat),Dw m dr tr/\Ft (TT.trn dr) p q u v/\v∈TT.trn dr u/\ds=[fD CF p q,tD dr]/\fs=[(("pair" : Str),tN [u,v])])\/(C=CN/\∃(m:Nat) (dr tr:AA) (p q:Int),Dw m dr tr/\it dr (p,q)=false/\ds=[fI CF p q,tD dr]/\fs=[])
theorem bG2 (h:cI0 CF CT CN ds C fs):ds.length=2:=by
 rcases h with⟨_,_,_,_,_,_,_,_,_,_,_,e,_⟩ | ⟨_,_,_,_,_,_,_,_,e,_⟩ <;> rw[e] <;> rfl
theorem tdN (r:Dw m dr tr)(x y:Nat):td dr (x:Int) (y:Int)=decide (y∈TT.trn dr x):=by
 have j:=r.len
 unfold td;rw[Cm];simp only[Ap,Ak,Ac8,Aa8];constructor
 .rintro⟨_,w,s,e⟩
  have:w=y:=by lia
  exact this▸s
 .intro h
  have:=r.lt h
  exact⟨⟨by lia,by lia⟩,y,h,rfl⟩
theorem eP6 (l:AC):dC9 (tN l)=true:=by
 show(List.all (nI l) λd=>(sV d).isSome)=true
 unfold nI;rw[List.all_map]
 simp[sV]
section
variable {P:Program}{w:World}{K:Frag}{mg:Str->Option Value}{base:Heap}{a:Ad}
theorem cT5 (T:Tx K mg a):FnOk P w K mg base CX0 1 a.P2 a.aK0 ["self", "pair"] (eL7 a.G1 ["pair"]):=by
 refine T.cG6.ok cD2 (λvs H Q E ⟨x,xs,e,Y,_⟩=>by rw[e,Av,Y];rfl) (λM A X s H vs Q E R h=>?_)
 obtain⟨x,xs,rfl,Y,U,q⟩:=h
 match xs,Y with
 | [v],_=>
  obtain⟨J,cl⟩:=T.o7.cl;refine⟨_,(A3 (L8 (cN8 PySem.F.excBase_ValueError K rfl T.aW8 T.bS3 (A0 (pv 0) (A0 (pv 1) A2)))) (A7 (eA0 (pv 0) (pv 1)))),?_⟩;refine⟨.ref x,rfl,v,rfl,x,a.G1,none,[v],rfl,U,T.o7.ek,by simp,?_⟩
  refine⟨v,rfl,.ref x,rfl,x,a.G1,J,rfl,U,cl,T.Z3,λdx j r=>q dx _ j r C4 ?_ λb h1 N=>?_⟩
  .rw[B6 r,C4];rfl
  .rw[B6 h1,B6 N]
theorem eC5 (T:Tx K mg a):FnOk P w K mg base (CXd P w) 3 a.M7 a.Q4 ["self", "drawing"] (spF K (eS8 a.C5) (cI0 a.C5 a.G1 a.K1)):=by
 have M := @cE3 P w K mg base a T
 have Y := @eA7 P w K mg base a T
 have j := @eQ6 P w K mg base a T
 have U := @cT5 P w K mg base a T
 refine T.T4.okD o8 (bD9 (by rintro ds d ⟨_,_,_,_,_,_,_,_,_,e,_⟩;rw[e];rfl) (λds C fs h=>bG2 h)) (λcdv A outer s H vs Q E hr h=>?_)
 obtain⟨ds,S,hS,r,z⟩:=h;refine⟨_,(A3 (L6 (aT6 (y7 (pcl j hr T.aK6 (A0 (pv 1) (A0 (J8 (pv 0) rfl) (A0 (J8 (pv 0) rfl) A2)))))) (A7 (aX9 rfl T.cU6 T.bK9 rfl (A0 K2 A2) bZ2)) E1)
   (A3 (psS 2 o8 (pcl Y hr T.bG4 (A0 (pv 1) (A0 (J8 (pv 0) rfl) (A0 (J8 (pv 0) rfl) A2)))))
   (A3 (psS 3 o8 (pcl Y hr T.bG4 (A0 (pv 1) (A0 (J8 (pv 0) rfl) (A0 (J8 (pv 0) rfl) A2)))))
   (A3 (L6 (y7 (pcl M hr T.cE2 (A0 (pv 1) (A0 (pv 2) (A0 (pv 3) A2))))) (A7 (dD1 T.o7.mke T.o7.kp U (hr.mono (by decide)) rfl T.cD3 T.bH0 .nil aI4 rfl (A0 (H9 (A0 (pv 2) (A0 (pv 3) A2))) A2) λ_ _ _ _ _ _ I hy e q=>dV9 I hy e q)) E1)
   (A7 (B7 (H9 (A0 (pv 2) (A0 (pv 3) A2))))))))),?_⟩
 have N:∀{m:Nat} {dr tr:AA} {p q' u v:Nat} {B:Hp} {R:AE} {t tn:TS},Dw m dr tr->Ft (TT.trn dr) p q' u v->(WB K B t [.val (fD a.C5 p q'),vD dr,vI (u:Int),vI (v:Int)] R)->WB K B (cC0 (bN3 (eH9 (tB (V3 (spV K dK3) [] E0 (E7 (C7 1) (E7 (aI6 K (C7 0) "p") (E7 (aI6 K (C7 0) "q") R6)))))) tn bW9) (cC0 (u8 (V3 (spV K dF4) [] E0 (E7 (C7 1) (E7 (aI6 K (C7 0) "p") (E7 (aI6 K (C7 0) "q") R6)))) (M8 2)) (cC0 (u8 (V3 (spV K dF4) [] E0 (E7 (C7 1) (E7 (aI6 K (C7 0) "q") (E7 (aI6 K (C7 0) "p") R6)))) (M8 3)) t))) [.val (fD a.C5 p q'),vD dr,.no,.no] R:=λ{m dr tr p q' u v B R t tn} J F k=>by
  have hdl:=J.len
  have s1:=J.good.sym F.h
  have e1:it dr ((p:Int),(q':Int))=true:=by
   unfold it;rw[tdN J,Bc F.h,Bool.true_and]
   have:=F.hi
   simp only[Ak];lia
  have fp:∀(mm:Bool) (x2 x3:Sl),LV.E K mm (aI6 K (C7 0) "p") [.val (fD a.C5 p q'),vD dr,x2,x3] (.int (p:Int)):=λmm x2 x3=>U0 v0 T.T0 T.aZ5 rfl
  have fq:∀(mm:Bool) (x2 x3:Sl),LV.E K mm (aI6 K (C7 0) "q") [.val (fD a.C5 p q'),vD dr,x2,x3] (.int (q':Int)):=λmm x2 x3=>U0 v0 T.T0 T.aY2 rfl
  refine Q2 (W.wb (K9 (b := !true) (bI2 (t_b (C3 (d:=.bool true) (A1 v1 (A1 (fp _ _ _) (A1 (fq _ _ _) A5))) ⟨dr,(p:Int),(q':Int),rfl,by rw[e1]⟩))) (λh=>by cases h) (λ_=>E2 ?_)))
  refine Q2 (W.wb (E5 (d:=.int (u:Int)) (C3 (A1 v1 (A1 (fp _ _ _) (A1 (fq _ _ _) A5))) ⟨m,dr,tr,p,q',J,F.h,rfl,by rw[<- F.ha]⟩) ?_))
  exact Q2 (W.wb (E5 (d:=.int (v:Int)) (C3 (A1 v1 (A1 (fq _ _ _) (A1 (fp _ _ _) A5))) ⟨m,dr,tr,q',p,J,s1,rfl,by rw[<- F.hb]⟩) k))
 have tdv:∀{m:Nat} {dr tr:AA} {p q' u v:Nat},Dw m dr tr->LV.E K false (V3 (spV K cV9) [] E0 (E7 (C7 1) (E7 (C7 2) (E7 (C7 3) R6)))) [.val (fD a.C5 p q'),vD dr,vI (u:Int),vI (v:Int)] (.bool (decide (v∈TT.trn dr u))):=λ{m dr tr p q' u v} J=>C3 (A1 v1 (A1 v2 (A1 v3 A5))) ⟨dr,(u:Int),(v:Int),rfl,by rw[tdN J]⟩
 rcases z with⟨d,⟨m,dr,tr,p,q',u,v,J,F,rfl,rfl⟩,q⟩ | ⟨C,fs,⟨rfl,m,dr,tr,p,q',u,v,J,F,hv,rfl,rfl⟩ | ⟨rfl,m,dr,tr,p,q',J,hn,rfl,rfl⟩,q⟩
 .refine aH3 hS r ?_ q;refine N J ⟨F.h,F.ha,F.hb,F.hi⟩ (W.wb ?_);have t1:=tdv (p:=p) (q':=q') (u:=u) (v:=v) J;rw[Aw F.hn]at t1;refine A8 (K9 (b:=false) (t_b t1) (λh=>by cases h) (λ_=>E2 ?_))
  exact E9 (N3 (ds:=[.int (u:Int),.int (v:Int)]) (A1 v2 (A1 v3 A5))) rfl
 .refine W3 hS r ?_;refine N J F ?_;have t1:=tdv (p:=p) (q':=q') (u:=u) (v:=v) J;rw[Bc hv]at t1;refine Q2 (bW6 (b:=true) (t_b t1) (λ_=>?_) (λh=>by cases h))
  exact dA9 (ds:=[tN [u,v]]) (A1 (N3 (ds:=[.int (u:Int),.int (v:Int)]) (A1 v2 (A1 v3 A5))) A5) rfl (λd hd=>by rw[Ad8.mp hd];exact eP6 _) (show 1<=1000 by decide) λH' dx vs s' e1 e2=>q H' (some dx) vs s' e1 e2
 .refine W3 hS r ?_;have t1:=C3 (K:=K) (pre:=dK3) (X:=E0) (ρ:=sl0 ["self", "drawing", "r", "s"].length [fI a.C5 p q',tD dr]) (m:=false) (d:=.bool false) (A1 v1 (A1 (U0 v0 T.T0 T.aZ5 rfl) (A1 (U0 v0 T.T0 T.aY2 rfl) A5))) ⟨dr,p,q',rfl,by rw[hn]⟩
  exact Q2 (bW6 (b := !false) (bI2 (t_b t1)) (λ_=>aW4 (A1 (m:=true) O1 A5) (show 1<=1000 by decide) λH' s'=>q H' none [] s' rfl .nil) (λh=>by cases h))
theorem eV9 (T:Tx K mg a):FnOk P w K mg base (CXd P w) 4 a.R4 a.X6 ["self", "drawing"] (spF K (eB8 a.C5) (cI0 a.C5 a.G1 a.K1)):=by
 have X:FnOk P w K mg base (CXd P w) 3 _ _ _ _:=eC5 T
 have U := @eB4 P w K mg base a T
 have j := @eB9 P w K mg base a T
 have M := @eD1 P w K mg base a T
 refine T.l9.okD Z7 (bD9 (by rintro ds d ⟨_,_,_,_,_,_,_,_,_,e,_⟩;rw[e];rfl) (λds C fs h=>bG2 h)) (λcdv A outer s H vs Q E R h=>?_)
 obtain⟨ds,S,hS,r,z⟩:=h;refine⟨_,(A3 (psS 2 Z7 (aO8 (pv 0) T.T0 T.aI2 X (R.mono (by decide)) T.aM0 .nil bX5 (A0 (pv 1) A2)))
   (A3 (psS 3 Z7 (B4 (ixK K) (pv 2) A4 (λ_ _=>rfl)))
   (A3 (psS 4 Z7 (B4 (ixK K) (pv 2) A4 (λ_ _=>rfl)))
   (A3 (psS 5 Z7 (cV1 (w5 (J8 (pv 0) rfl) (pcl U R T.aO3 (A0 (B4 (ixK K) (pv 1) (J8 (pv 0) rfl) (λ_ _=>rfl)) (A0 (J8 (pv 0) rfl) A2))) (w5 (J8 (pv 0) rfl) (pcl U R T.aO3 (A0 (B4 (ixK K) (pv 1) (J8 (pv 0) rfl) (λ_ _=>rfl)) (A0 (J8 (pv 0) rfl) A2))) (w5 (pv 3) (pcl j R T.U4 (A0 (B4 (ixK K) (pv 1) (pv 3) (λ_ _=>rfl)) (A0 (J8 (pv 0) rfl) (A0 (pv 4) A2)))) (w5 (pv 4) (pcl j R T.U4 (A0 (B4 (ixK K) (pv 1) (pv 4) (λ_ _=>rfl)) (A0 (J8 (pv 0) rfl) (A0 (pv 3) A2)))) cZ3)))) rfl rfl (by simp) (by decide)))
   (A7 (B7 (pcl M R T.aF7 (A0 (pv 1) (A0 (pv 5) A2))))))))),?_⟩
 rcases z with⟨d,⟨m,dr,tr,p,Y,u,v,J,F,rfl,rfl⟩,q⟩ | ⟨C,fs,hx,q⟩
 .refine aH3 hS r ?_ q;have hdl:=J.len;have m7:=J.m7;have B:=J.good;have C:=F.fc B;obtain⟨n1,n2,n3,n4,n5,n6⟩:=F.ne B;have mq:=(TT.C6 C.q1).2;have mu:=(TT.C6 C.a1).1;have mv:=(TT.C6 C.b2).1;have lp:=J.lt F.h;have lq:=J.lt mq;have lu:=J.lt mu;have lv:=J.lt mv;have tp:=J.tle p;have tq:=J.tle Y;have tu:=J.tle u;have tv:=J.tle v;refine Q2 (aD1 v0 rfl (A1 v1 A5) (.inl ⟨tN [u,v],⟨m,dr,tr,p,Y,u,v,J,F,rfl,rfl⟩,W.wb ?_⟩));refine A8 (E5 (d:=.int (u:Int)) (C9 (ds:=nI [u,v]) v2 A6 rfl rfl) ?_);refine A8 (E5 (d:=.int (v:Int)) (C9 (ds:=nI [u,v]) v2 A6 rfl rfl) ?_);show W K _ [.val (fD a.C5 p Y),vD dr,.val (tN [u,v]),vI (u:Int),vI (v:Int),.no] _;have fp:∀(mm:Bool),LV.E K mm (aI6 K (C7 0) "p") [.val (fD a.C5 p Y),vD dr,.val (tN [u,v]),vI (u:Int),vI (v:Int),.no] (.int (p:Int)):=λmm=>U0 v0 T.T0 T.aZ5 rfl
  have fq:∀(mm:Bool),LV.E K mm (aI6 K (C7 0) "q") [.val (fD a.C5 p Y),vD dr,.val (tN [u,v]),vI (u:Int),vI (v:Int),.no] (.int (Y:Int)):=λmm=>U0 v0 T.T0 T.aY2 rfl
  refine A8 (E5 (d:=diD (kI (kv4 dr p Y u v))) (dH2 (aH8 (is:=cL (TT.M4 (TT.trn dr p) Y)) (fp _) (by rw[<- p5];exact C3 (A1 (C9 (ds:=dr.map tN) v1 (fp _) rfl (J.at_ lp)) (A1 (fq _) A5)) ⟨_,_,by lia,rfl,rfl⟩) (aH8 (is:=cL (TT.M4 (TT.trn dr Y) p)) (fq _) (by rw[<- p5];exact C3 (A1 (C9 (ds:=dr.map tN) v1 (fq _) rfl (J.at_ lq)) (A1 (fp _) A5)) ⟨_,_,by lia,rfl,rfl⟩) (aH8 (is:=cL (TT.L4 (TT.trn dr u) p v)) v3 (by rw[<- p5];exact C3 (A1 (C9 (ds:=dr.map tN) v1 v3 rfl (J.at_ lu)) (A1 (fp _) (A1 v4 A5))) ⟨_,_,_,mu,by lia,rfl,rfl⟩) (aH8 (is:=cL (TT.L4 (TT.trn dr v) Y u)) v4 (by rw[<- p5];exact C3 (A1 (C9 (ds:=dr.map tN) v1 v4 rfl (J.at_ lv)) (A1 (fq _) (A1 v3 A5))) ⟨_,_,_,mv,by lia,rfl,rfl⟩) dM9)))) (by
   show [(p:Int),(Y:Int),(u:Int),(v:Int)].Nodup
   simp;lia) (by show 4<=15;decide)) ?_)
  refine E9 (d:=.tuple ((aR0 m dr p Y u v).map tN)) (C3 (A1 v1 (A1 v5 A5)) ⟨dr,kv4 dr p Y u v,by lia,λl hl=>?_,λz hz=>?_,rfl,by rw[dU8 hdl]⟩) rfl
  .obtain⟨i,hi,e⟩:=List.mem_iff_getElem.mp hl;have N:=N5 hi;rw[Aa2 hi,e]at N;have e2:=Ab4 N;have h2:=J.good.two i (by lia)
   have:=J.tle i
   rw[e2];exact⟨λz=>by rw[z]at h2;simp at h2,by lia⟩
  .have G':=B.flip F
   have key:∀{l:AC} {b v:Nat},b∈l->l.length<=10->TT.L4 l b v≠[]/\(TT.L4 l b v).length<=1000:=λ{l b v} h1 h2=>by
    have:=TT.y9 (v:=v) h1
    exact⟨λz=>by rw[z]at this;simp at this,by lia⟩
   have w1:=G'.two p lp
   have w2:=G'.two Y lq
   rw[show TT.Q5 (TT.trn dr) p Y u v p=TT.M4 (TT.trn dr p) Y from Ac rfl]at w1
   rw[show TT.Q5 (TT.trn dr) p Y u v Y=TT.M4 (TT.trn dr Y) p by unfold TT.Q5;rw[Ab (Ne.symm n1),Ac rfl]]at w2
   have w3:=TT.S6 F.h (B.nd p)
   have w4:=TT.S6 mq (B.nd Y)
   unfold kv4 at hz;simp only[Aa1,Ac2,or_false]at hz;rcases hz with rfl | rfl | rfl | rfl
   .exact⟨λz=>by have z:TT.M4 (TT.trn dr p) Y=[]:=z;rw[z]at w1;simp at w1,by show(TT.M4 (TT.trn dr p) Y).length<=1000;lia⟩
   .exact⟨λz=>by have z:TT.M4 (TT.trn dr Y) p=[]:=z;rw[z]at w2;simp at w2,by show(TT.M4 (TT.trn dr Y) p).length<=1000;lia⟩
   .exact key mu tu
   .exact key mv tv
 .rcases hx with⟨rfl,m,dr,tr,p,Y,u,v,J,F,hv,rfl,rfl⟩ | ⟨rfl,m,dr,tr,p,Y,J,hn,rfl,rfl⟩
  .refine W3 hS r ?_;exact Q2 (aD1 v0 rfl (A1 v1 A5) (.inr ⟨a.G1,_,.inl ⟨rfl,m,dr,tr,p,Y,u,v,J,F,hv,rfl,rfl⟩,λH' dd vs s' N e2=>q H' dd vs s' N e2⟩))
  .refine W3 hS r ?_;exact Q2 (aD1 v0 rfl (A1 v1 A5) (.inr ⟨a.K1,_,.inr ⟨rfl,m,dr,tr,p,Y,J,hn,rfl,rfl⟩,λH' dd vs s' N e2=>q H' dd vs s' N e2⟩))
theorem eS1 (T:Tx K mg a):FnOk P w K mg base (CXd P w) 4 a.Q6 a.Y2 ["self", "drawing"] (spF K (eC7 a.C5) (cI0 a.C5 a.G1 a.K1)):=by
 have j:FnOk P w K mg base (CXd P w) 3 _ _ _ _:=eC5 T
 have Y := @dL5 P w K mg base a T
 refine T.n8.okD aV2 (bD9 (by rintro ds d ⟨_,_,_,_,_,_,_,_,_,e,_⟩;rw[e];rfl) (λds C fs h=>bG2 h)) (λcdv A outer s H vs Q E hr h=>?_)
 obtain⟨ds,S,B,r,z⟩:=h;refine⟨_,(A3 (psS 2 aV2 (aO8 (pv 0) T.T0 T.aI2 j (hr.mono (by decide)) T.aM0 .nil bX5 (A0 (pv 1) A2)))
   (A7 (B7 (t5 T.bA7 Y (hr.mono (by decide)) rfl T.cQ6 T.aN1 .nil aI4 (A0 (B4 (ixK K) (pv 2) A4 (λ_ _=>rfl)) (A0 (B4 (ixK K) (pv 2) A4 (λ_ _=>rfl)) A2)))))),?_⟩
 rcases z with⟨d,⟨m,dr,tr,p,U,u,v,X,F,rfl,rfl⟩,q⟩ | ⟨C,fs,hx,q⟩
 .refine aH3 B r ?_ q;refine Q2 (aD1 v0 rfl (A1 v1 A5) (.inl ⟨tN [u,v],⟨m,dr,tr,p,U,u,v,X,F,rfl,rfl⟩,W.wb ?_⟩));exact E9 (d:=fD a.C5 u v) (aG6 (is:=[(u:Int),(v:Int)]) (A1 (C9 (ds:=nI [u,v]) v2 A6 rfl rfl) (A1 (C9 (ds:=nI [u,v]) v2 A6 rfl rfl) A5)) rfl) rfl
 .rcases hx with⟨rfl,m,dr,tr,p,U,u,v,X,F,hv,rfl,rfl⟩ | ⟨rfl,m,dr,tr,p,U,X,hn,rfl,rfl⟩
  .refine W3 B r ?_;exact Q2 (aD1 v0 rfl (A1 v1 A5) (.inr ⟨a.G1,_,.inl ⟨rfl,m,dr,tr,p,U,u,v,X,F,hv,rfl,rfl⟩,λJ M vs s' N R=>q J M vs s' N R⟩))
  .refine W3 B r ?_;exact Q2 (aD1 v0 rfl (A1 v1 A5) (.inr ⟨a.K1,_,.inr ⟨rfl,m,dr,tr,p,U,X,hn,rfl,rfl⟩,λJ M vs s' N R=>q J M vs s' N R⟩))
end
set_option maxHeartbeats 1000000
theorem S9:B8 ["_law_found", "_law_due_here", "_law_p", "_law_place"] ["_law_found", "_law_due_here"] (A9 T5):={}
theorem aV0:B8 ["_law_turn", "_law_ahead", "_law_place", "_law_at"] ["_law_turn", "_law_ahead", "_law_place"] (A9 aK8):={}
theorem aL0:B8 ["_law_turns", "_law_land", "_law_made_here", "_law_k"] ["_law_turns", "_law_land"] (A9 aS8):={}
theorem cA4:B8 ["_law_turn", "_law_place"] ["_law_turn", "_law_place"] (A9 aN5):={}
theorem W1:B8 ["_law_turns", "_law_p", "_law_q", "_law_r", "_law_s", "_law_made_here"] ["_law_turns", "_law_p", "_law_q"] (A9 u7):={}
def eP5 (ds:AF)(d:PyData):Prop:=∃L:AA,L.length<=1000/\ds=[tD L,tD L]/\d=.bool true
def eR8 (ds:AF)(d:PyData):Prop:=∃(l:AC) (b v:Nat),b∈l/\l.length<=1000/\ds=[tN l,.int (b:Int),.int (v:Int)]/\d=tN (TT.B5 (TT.L4 l b v))
def eQ0 (ds:AF)(d:PyData):Prop:=∃(m:Nat) (dr tr:AA) (x y z:Nat),Dw m dr tr/\Bg m dr/\Lb m dr x y z/\ds=[tD dr,tN [x,y,z]]/\d=.tuple ((aW2 m dr x y z).map tN)
def mkL (m:Nat)(dr:AA)(x y z:Nat):Nat->AA
 | 0=>dr
 | 1=>dr.set x (TT.B5 (TT.L4 (TT.trn dr x) y (m+3)))
 | 2=>(dr.set x (TT.B5 (TT.L4 (TT.trn dr x) y (m+3)))).set y (TT.B5 (TT.L4 (TT.trn dr y) z (m+3)))
 | _=>((dr.set x (TT.B5 (TT.L4 (TT.trn dr x) y (m+3)))).set y (TT.B5 (TT.L4 (TT.trn dr y) z (m+3)))).set z (TT.B5 (TT.L4 (TT.trn dr z) x (m+3)))
theorem eL6 (X:Lb m dr x y z)(j:Dw m dr tr)(s:Bg m dr):mkL m dr x y z 3++[TT.B5 [x,y,z]]=aW2 m dr x y z:=by
 obtain⟨U,J,M⟩:=X.ne j;have Y:=j.len;unfold aW2;rw[Bh,Ad2];show _=_++[TT.B5 (TT.bS5 (TT.trn dr) (m+3) x y z (m+3))];rw[show TT.bS5 (TT.trn dr) (m+3) x y z (m+3)=[x,y,z] from Ac rfl]
 congr 1
 refine List.ext_getElem? λi=>?_
 rw[Aa9];show(((dr.set x (TT.B5 (TT.L4 (TT.trn dr x) y (m+3)))).set y (TT.B5 (TT.L4 (TT.trn dr y) z (m+3)))).set z (TT.B5 (TT.L4 (TT.trn dr z) x (m+3))))[i]? = _;by_cases hi:i<m+3
 .rw[List.getElem?_range hi];show _=some (TT.B5 (TT.bS5 (TT.trn dr) (m+3) x y z i));unfold TT.bS5;rw[Ab (by lia)]
  by_cases r:i=z
  .subst r;rw[Ai (by simp;lia),Ab (Ne.symm M),Ab (Ne.symm J),Ac rfl]
  .rw[Ad0 (Ne.symm r),Ab r];by_cases w:i=y
   .subst w;rw[Ai (by simp;lia),Ab (Ne.symm U),Ac rfl]
   .rw[Ad0 (Ne.symm w),Ab w];by_cases e:i=x
    .subst e;rw[Ai (by lia),Ac rfl]
    .rw[Ad0 (Ne.symm e),Ab e,N5 (by lia),s i hi]
 .rw[Ad6 (by simp;lia),Ad6 (by simp;lia)];rfl
theorem eV2 (h:∀d∈l,PyData.eqv d d=true):PyData.eqvAll l l=true:=by
 induction l with
 | nil=>rfl
 | cons d l r=>simp only[PyData.eqvAll,h d Al,r λe w=>h e (Ad4 _ w),Bool.and_self]
theorem eX5 (l:AC):PyData.eqvAll (nI l) (nI l)=true:=eV2 λd e=>by
 obtain⟨q,_,rfl⟩:=bG7 e;rw[cB8];exact Bc rfl
theorem eY1 (R:AA):PyData.eqv (.tuple (R.map tN)) (.tuple (R.map tN))=true:=by
 simp only[PyData.eqv];exact eV2 λd e=>by
  obtain⟨l,_,rfl⟩:=Aa8.mp e;show PyData.eqv (.tuple (nI l)) (.tuple (nI l))=true;simp only[PyData.eqv];exact eX5 l
theorem eW2 (R:AA):Fit (.tuple (R.map tN)):=(cI5 (n:=1) λd e=>by
 obtain⟨l,_,rfl⟩:=Aa8.mp e;rw[aI1];exact V1 _).fit
theorem dU5 (v:Nat)(l:AC):(nI l).any (λz=>PyData.eqv z (.int (v:Int)))=decide (v∈l):=by
 rw[cP6];refine Dt.mpr ⟨λh=>?_,λh=>Aa8.mpr ⟨v,h,rfl⟩⟩
 obtain⟨y,r,e⟩:=Aa8.mp h;have w:y=v:=by lia
 exact w▸r
def dU0 (m:Nat)(dr:AA)(p q:Nat):PyData:=if TT.th (TT.trn dr) q p∈TT.trn dr (TT.th (TT.trn dr) p q) then tN [TT.th (TT.trn dr) p q,TT.th (TT.trn dr) q p] else .tuple ((aR0 m dr p q (TT.th (TT.trn dr) p q) (TT.th (TT.trn dr) q p)).map tN)
def eM8 (ds:AF)(d:PyData):Prop:=∃(l:AC) (v:Nat),l.length<=1000/\TT.M4 l v≠[]/\ds=[tN l,.int (v:Int)]/\d=tN (TT.B5 (l.filter λx=>decide (x≠v)))
def eK7 (ds:AF)(d:PyData):Prop:=∃(m:Nat) (dr tr:AA) (p q:Nat),Dw m dr tr/\Bg m dr/\q∈TT.trn dr p/\(3<=p\/3<=q)/\ds=[tD dr,.int (p:Int),.int (q:Int)]/\d=dU0 m dr p q
def mkF (dr:AA)(p q u v:Nat):AA:=(((dr.set p (TT.B5 (TT.M4 (TT.trn dr p) q))).set q (TT.B5 (TT.M4 (TT.trn dr q) p))).set u (TT.B5 (TT.L4 (TT.trn dr u) p v))).set v (TT.B5 (TT.L4 (TT.trn dr v) q u))
theorem dX4 (e:Dw m dr tr)(Y:Bg m dr)(F:TT.Fl (TT.trn dr) p q u v):mkF dr p q u v=aR0 m dr p q u v:=by
 obtain⟨R,Q,B,P,n5,n6⟩:=F.ne e.good;have C:=F.fc e.good;have X:=e.len;have U:=e.lt F.h;have J:=e.lt (TT.C6 C.q1).2;have M:=e.lt (TT.C6 C.a1).1;have N:=e.lt (TT.C6 C.b2).1;unfold mkF aR0;refine List.ext_getElem? λi=>?_
 rw[Aa9];by_cases hi:i<m+3
 .rw[List.getElem?_range hi];show _=some (TT.B5 (TT.Q5 (TT.trn dr) p q u v i));unfold TT.Q5;by_cases s:i=v
  .subst s;rw[Ai (by simp;lia),Ab (by lia),Ab (by lia),Ab (by lia),Ac rfl]
  .rw[Ad0 (Ne.symm s)];by_cases j:i=u
   .subst j;rw[Ai (by simp;lia),Ab (by lia),Ab (by lia),Ac rfl]
   .rw[Ad0 (Ne.symm j)];by_cases r:i=q
    .subst r;rw[Ai (by simp;lia),Ab (by lia),Ac rfl]
    .rw[Ad0 (Ne.symm r)];by_cases w:i=p
     .subst w;rw[Ai (by lia),Ac rfl]
     .rw[Ad0 (Ne.symm w),Ab w,Ab r,Ab j,Ab s,N5 (by lia),Y i hi]
 .rw[Ad6 (by simp;lia),Ad6 (by simp;lia)];rfl
section
variable {P:Program}{w:World}{K:Frag}{mg:Str->Option Value}{base:Heap}{a:Ad}
theorem eR4 (T:Tx K mg a):FnOk P w K mg base CX0 2 a.m8 a.l8 ["_law_found", "_law_due_here"] (spV K eP5):=by
 have Y := @eS6 P w K mg base a T
 refine T.k9.F.ok S9 (Y7 (by rintro ds d ⟨_,_,e,_⟩;rw[e];rfl)) (λcdv A M s H vs Q E R h=>?_)
 obtain⟨ds,S,d,hS,r,⟨L,hl,rfl,rfl⟩,q⟩:=h;refine⟨_,(A3 (L6 (PW.pt (aV3 (aT6 (y7 (C0 (dM3 K) (by rfl) T.G9 boot_isinstance (A0 (pv 0) (A0 (bW8 rfl T.S5 boot_tuple) A2))))) (bQ8 (B9 bH7 (C0 (aD7 K) (by rfl) T.O9 Am (A0 (pv 0) A2)) (C0 (aD7 K) (by rfl) T.O9 Am (A0 (pv 1) A2)) (D8 _))))) (A7 (B7 X4)) E1)
   (A3 (S4 Ao rfl (N1 rfl T.O6 (A0 (C0 (aD7 K) (by rfl) T.O9 Am (A0 (pv 1) A2)) A2)) (pgN 2 S9) (A3 (L6 (aT6 (y7 (C0 (dM3 K) (by rfl) T.G9 boot_isinstance (A0 (B4 (ixK K) (pv 0) (pv 2) (λ_ _=>rfl)) (A0 (bW8 rfl T.S5 boot_tuple) A2))))) (A7 (B7 X4)) E1)
   (A7 (S4 Ao rfl (aN4 (B4 (ixK K) (pv 0) (pv 2) (λ_ _=>rfl))) (pgN 3 S9) (A7 (L6 (aT6 (y7 (pcl Y R T.aV6 (A0 (pv 3) A2)))) (A7 (B7 X4)) E1))))))
   (A7 (B7 (bK4 (aM5 K R) (pv 0) (pv 1) (D8 _)))))),M0 hS r ?_ q⟩
 refine A8 (K9 (b := !true || !decide (((L.map tN).length:Int)=((L.map tN).length:Int))) (aI5 (bI2 (t_b (bT5 (T := "tuple") (d:=.tuple (L.map tN)) v0))) λ_=>C1 (aI3 (M9 (ds:=L.map tN) (A1 v0 A5)) (M9 (ds:=L.map tN) (A1 v1 A5)))) (λh=>by simp at h) (λ_=>E2 ?_))
 refine A8 (Y5 (a8 (j:=((L.map tN).length:Int)) (A1 (M9 (ds:=L.map tN) (A1 v1 A5)) A5) (by lia) (by rw[Aa3];lia)) (λi ρ=>∃N X,ρ=[vD L,vD L,N,X]) ⟨.no,.no,rfl⟩ ?_ ?_)
 .rintro p d _ J ⟨N,X,rfl⟩;obtain⟨rfl,hp⟩:=Z8 J;rw[Aa3]at hp;have hp:p<L.length:=by lia
  refine⟨_,F8,?_⟩;show W K _ [vD L,vD L,vI (p:Int),X] _;have U:atI (L.map tN) (p:Int)=some (tN (TT.trn L p)):=S1 p rfl (by rw[Aa9,N5 hp];rfl)
  refine A8 (K9 (b := !true) (bI2 (t_b (bT5 (T := "tuple") (d:=tN (TT.trn L p)) (C9 (ds:=L.map tN) v0 v2 rfl U)))) (λh=>by cases h) (λ_=>E2 ?_))
  refine Y5 (bI8 (ds:=nI (TT.trn L p)) (C9 (ds:=L.map tN) v0 v2 rfl U)) (λk ρ=>∃X,ρ=[vD L,vD L,vI (p:Int),X]) ⟨X,rfl⟩ ?_ ?_
  .rintro k d _ J ⟨y3,rfl⟩;obtain⟨B,_,rfl⟩:=bG7 (Bb J);refine⟨_,F8,?_⟩;show W K _ [vD L,vD L,vI (p:Int),vI (B:Int)] _;exact K9 (b := !true) (bI2 (t_b (C3 (A1 v3 A5) ⟨(B:Int),rfl,rfl⟩))) (λh=>by cases h) (λ_=>E2 ⟨_,rfl⟩)
  .rintro _ ⟨y3,rfl⟩;exact⟨_,_,rfl⟩
 .rintro _ ⟨N,X,rfl⟩;exact E9 (cY0 v0 v1 (eW2 L) (eW2 L)) (by rw[eY1])
theorem eF4 (T:Tx K mg a):FnOk P w K mg base CX0 2 a.bH8 a.bI0 ["_law_turn", "_law_ahead", "_law_place"] (spV K eR8):=by
 have Y := @aX0 P w K mg base a T
 refine T.z7.F.ok aV0 (Y7 (by rintro ds d ⟨_,_,_,_,_,e,_⟩;rw[e];rfl)) (λB A J s H vs Q E hr h=>?_)
 obtain⟨ds,S,d,hS,r,⟨l,x,v,U,hl,rfl,rfl⟩,q⟩:=h;refine⟨_,(A3 (psS 3 aV0 (B1 N6 (S7 PySem.F.plainAttrs_tuple PySem.F.slot_tuple_index PySem.F.type_tuple_index (aC8 K) (pv 0) (A0 (pv 1) A2)) A4))
   (A7 (B7 (pcl Y hr T.R9 (A0 (B1 (O5 K) (B1 (O5 K) (K5 (bX8 K) (by rfl) T.v9 boot_list (A0 (P9 (cA0 K) (pv 0) Z1 (S0 (pv 3))) A2)) (D6 (A0 (pv 2) A2))) (K5 (bX8 K) (by rfl) T.v9 boot_list (A0 (P9 (cA0 K) (pv 0) (S0 (pv 3)) Z1) A2))) A2))))),M0 hS r ?_ q⟩
 have M:l.idxOf x<l.length:=Ac4 U
 refine A8 (E5 (d:=.int ((l.idxOf x+1:Nat):Int)) ?_ ?_)
 .have h:=aK7 (K:=K) (m:=false) (ρ:=sl0 ["_law_turn", "_law_ahead", "_law_place", "_law_at"].length [tI (l.map λ(x:Nat)=>(x:Int)),.int (x:Int),.int (v:Int)]) (ta:=C7 0) (tb:=C7 1) (k:=(x:Int)) v0 v1 (Aa8.mpr ⟨x,U,rfl⟩)
  rw[aC1 x l]at h;rw[aI1];exact N4 (g:=λi j=>i+j) h (A6 (i:=1))
 have N:aD0 (nI l) none (some ((l.idxOf x+1:Nat):Int))=nI (l.take (l.idxOf x+1)):=by rw[aL2 (by rw[G5];lia),cX1]
 have R:aD0 (nI l) (some ((l.idxOf x+1:Nat):Int)) none=nI (l.drop (l.idxOf x+1)):=by rw[aO0 (by rw[G5];lia),cX3]
 have X:=TT.y9 (v:=v) U
 refine E9 (C3 (A1 (EF.e' (aN7 (ds:=nI (l.take (l.idxOf x+1))++nI [v]) (es:=nI (l.drop (l.idxOf x+1))) (EF.e' (aN7 (es:=nI [v]) (EF.e' (z6 (d:=.tuple (nI (l.take (l.idxOf x+1)))) (ds:=nI (l.take (l.idxOf x+1))) (A1 (by rw[<- N];exact aL7 (ds:=nI l) v0 j7 (U1 v3) (L9 l)) A5) rfl (L9 _))) (EF.e' (G3 (ds:=[.int (v:Int)]) (A1 v2 A5))) (L9 _) (L9 _) ?_)) (EF.e' (z6 (d:=.tuple (nI (l.drop (l.idxOf x+1)))) (ds:=nI (l.drop (l.idxOf x+1))) (A1 (by rw[<- R];exact aL7 (ds:=nI l) v0 (U1 v3) j7 (L9 l)) A5) rfl (L9 _))) (by rw[<- o9];exact L9 _) (L9 _) ?_)) A5) ⟨TT.L4 l x v,λz=>by rw[z]at X;simp at X,by lia,?_,rfl⟩) rfl
 .rw[G5,G5,Ad1];unfold sizeLine;simp;lia
 .rw[Ab7,G5,G5,G5,Ad1,Bm];unfold sizeLine;simp;lia
 .show [PyData.list _]=[PyData.list _]
  rw[<- o9,<- o9,Ad7];rfl
theorem eT9 (T:Tx K mg a):FnOk P w K mg base CX0 3 a.bO6 a.bO0 ["_law_turns", "_law_land"] (spV K eQ0):=by
 have Y := @aX0 P w K mg base a T
 have X := @eF4 P w K mg base a T
 refine T.bO5.F.ok aL0 (Y7 (by rintro ds d ⟨_,_,_,_,_,_,_,_,_,e,_⟩;rw[e];rfl)) (λcdv A outer s H vs Q E hr h=>?_)
 obtain⟨ds,S,d,hS,r,⟨m,dr,tr,x,y,z,U,bg,lb,rfl,rfl⟩,q⟩:=h;refine⟨_,(A3 (psS 2 aL0 (K5 (bX8 K) (by rfl) T.v9 boot_list (A0 (pv 0) A2)))
   (A3 (S4 Ao rfl (N1 rfl T.O6 (A0 A4 A2)) (pgN 3 aL0) (A7 (aB2 (pcl X hr T.z7 (A0 (B4 (ixK K) (pv 2) (B4 (ixK K) (pv 1) (pv 3) (λ_ _=>rfl)) (λ_ _=>rfl)) (A0 (B4 (ixK K) (pv 1) (B1 J0 (B1 N6 (pv 3) A4) A4) (λ_ _=>rfl)) (A0 (C0 (aD7 K) (by rfl) T.O9 Am (A0 (pv 0) A2)) A2)))) (aK5 (pv 2) (B4 (ixK K) (pv 1) (pv 3) (λ_ _=>rfl)) m5))))
   (A7 (B7 (K5 (cR3 K) (by rfl) T.S5 boot_tuple (A0 (B1 (O5 K) (pv 2) (D6 (A0 (pcl Y hr T.R9 (A0 (K5 (bX8 K) (by rfl) T.v9 boot_list (A0 (pv 1) A2)) A2)) A2))) A2)))))),M0 hS r ?_ q⟩
 have m7:=U.m7
 have J:=U.len
 obtain⟨n1,n2,n3⟩:=lb.ne U;obtain⟨m1,m2⟩:=lb.mem U;have lx:=U.lt lb.h;have ly:=U.lt m1;have lz:=U.lt m2;have tx:=U.tle x;have ty:=U.tle y;have tz:=U.tle z;have R:((dr.map tN).length:Int)=((m+3:Nat):Int):=by rw[Aa3,J]
 refine A8 (N2 (ds:=dr.map tN) (z6 (d:=.tuple (dr.map tN)) (A1 v0 A5) rfl (U9 _)) ?_ (show 2<4 by decide))
 refine A8 (Y5 (a8 (j:=3) (A1 A6 A5) (by lia) (by lia)) (λi ρ=>∃x3,x3.nb=true/\ρ=[vD dr,.val (tN [x,y,z]),.own ((mkL m dr x y z i).map tN),x3]) ⟨.no,rfl,rfl⟩ ?_ ?_)
 .rintro k d _ hd ⟨x3,_,rfl⟩;obtain⟨rfl,hk⟩:=Z8 hd;refine⟨_,F8,?_⟩;have hk:k<3:=by lia
  rcases (show k=0\/k=1\/k=2 by lia) with rfl | rfl | rfl
  .have B:(dr)[x]? = some (TT.trn dr x):=N5 (by lia)
   have hM:(dr).length=m+3:=by simp[J]
   show W K _ [vD dr,.val (tN [x,y,z]),.own ((dr).map tN),vI ((0:Nat):Int)] _
   have M:∀N,LV.E K N _ [vD dr,.val (tN [x,y,z]),.own ((dr).map tN),vI ((0:Nat):Int)] (.int (x:Int)):=λN=>C9 (ds:=nI [x,y,z]) v1 v3 rfl rfl
   refine bE4 (i:=2) x (d:=tN (TT.B5 (TT.L4 (TT.trn dr x) y (m+3)))) (C3 (A1 (LV.E.imm (m:=false) (C9 (ds:=(dr).map tN) (P6 (i:=2) rfl) (M _) rfl (S1 x rfl (by rw[Aa9,B];rfl))) (aT0 _)) (A1 (C9 (ds:=nI [x,y,z]) (d':=.int (y:Int)) v1 (e_i (N4 (g:=λi j=>i+j) v3 A6) A6 (by decide)) rfl rfl) (A1 (by rw[<- R];exact M9 (ds:=dr.map tN) (A1 v0 A5)) A5))) ⟨TT.trn dr x,y,m+3,lb.h,by lia,rfl,rfl⟩) rfl (M _) rfl (by rw[Aa3];lia) ⟨.val (.int ((0:Nat):Int)),rfl,?_⟩
   show [_,_,Sl.own _,_]=[_,_,Sl.own _,_]
   rw[<- List.map_set];rfl
  .have B:(dr.set x (TT.B5 (TT.L4 (TT.trn dr x) y (m+3))))[y]? = some (TT.trn dr y):=by rw[Ad0 n1];exact N5 (by lia)
   have hM:(dr.set x (TT.B5 (TT.L4 (TT.trn dr x) y (m+3)))).length=m+3:=by simp[J]
   show W K _ [vD dr,.val (tN [x,y,z]),.own ((dr.set x (TT.B5 (TT.L4 (TT.trn dr x) y (m+3)))).map tN),vI ((1:Nat):Int)] _
   have M:∀N,LV.E K N _ [vD dr,.val (tN [x,y,z]),.own ((dr.set x (TT.B5 (TT.L4 (TT.trn dr x) y (m+3)))).map tN),vI ((1:Nat):Int)] (.int (y:Int)):=λN=>C9 (ds:=nI [x,y,z]) v1 v3 rfl rfl
   refine bE4 (i:=2) y (d:=tN (TT.B5 (TT.L4 (TT.trn dr y) z (m+3)))) (C3 (A1 (LV.E.imm (m:=false) (C9 (ds:=(dr.set x (TT.B5 (TT.L4 (TT.trn dr x) y (m+3)))).map tN) (P6 (i:=2) rfl) (M _) rfl (S1 y rfl (by rw[Aa9,B];rfl))) (aT0 _)) (A1 (C9 (ds:=nI [x,y,z]) (d':=.int (z:Int)) v1 (e_i (N4 (g:=λi j=>i+j) v3 A6) A6 (by decide)) rfl rfl) (A1 (by rw[<- R];exact M9 (ds:=dr.map tN) (A1 v0 A5)) A5))) ⟨TT.trn dr y,z,m+3,m1,by lia,rfl,rfl⟩) rfl (M _) rfl (by rw[Aa3];lia) ⟨.val (.int ((1:Nat):Int)),rfl,?_⟩
   show [_,_,Sl.own _,_]=[_,_,Sl.own _,_]
   rw[<- List.map_set];rfl
  .have B:((dr.set x (TT.B5 (TT.L4 (TT.trn dr x) y (m+3)))).set y (TT.B5 (TT.L4 (TT.trn dr y) z (m+3))))[z]? = some (TT.trn dr z):=by rw[Ad0 n2,Ad0 n3];exact N5 (by lia)
   have hM:((dr.set x (TT.B5 (TT.L4 (TT.trn dr x) y (m+3)))).set y (TT.B5 (TT.L4 (TT.trn dr y) z (m+3)))).length=m+3:=by simp[J]
   show W K _ [vD dr,.val (tN [x,y,z]),.own (((dr.set x (TT.B5 (TT.L4 (TT.trn dr x) y (m+3)))).set y (TT.B5 (TT.L4 (TT.trn dr y) z (m+3)))).map tN),vI ((2:Nat):Int)] _
   have M:∀N,LV.E K N _ [vD dr,.val (tN [x,y,z]),.own (((dr.set x (TT.B5 (TT.L4 (TT.trn dr x) y (m+3)))).set y (TT.B5 (TT.L4 (TT.trn dr y) z (m+3)))).map tN),vI ((2:Nat):Int)] (.int (z:Int)):=λN=>C9 (ds:=nI [x,y,z]) v1 v3 rfl rfl
   refine bE4 (i:=2) z (d:=tN (TT.B5 (TT.L4 (TT.trn dr z) x (m+3)))) (C3 (A1 (LV.E.imm (m:=false) (C9 (ds:=((dr.set x (TT.B5 (TT.L4 (TT.trn dr x) y (m+3)))).set y (TT.B5 (TT.L4 (TT.trn dr y) z (m+3)))).map tN) (P6 (i:=2) rfl) (M _) rfl (S1 z rfl (by rw[Aa9,B];rfl))) (aT0 _)) (A1 (C9 (ds:=nI [x,y,z]) (d':=.int (x:Int)) v1 (e_i (N4 (g:=λi j=>i+j) v3 A6) A6 (by decide)) rfl rfl) (A1 (by rw[<- R];exact M9 (ds:=dr.map tN) (A1 v0 A5)) A5))) ⟨TT.trn dr z,x,m+3,m2,by lia,rfl,rfl⟩) rfl (M _) rfl (by rw[Aa3];lia) ⟨.val (.int ((2:Nat):Int)),rfl,?_⟩
   show [_,_,Sl.own _,_]=[_,_,Sl.own _,_]
   rw[<- List.map_set];rfl
 .rintro _ ⟨x3,_,rfl⟩;rw[W2];have hM:(mkL m dr x y z 3).length=m+3:=by show(((dr.set x _).set y _).set z _).length=_;simp[J]
  refine E9 (d:=.tuple ((mkL m dr x y z 3).map tN++[tN (TT.B5 [x,y,z])])) (Y8 (A1 (EF.e' (aN7 (P6 (i:=2) rfl) (EF.e' (G3 (ds:=[tN (TT.B5 [x,y,z])]) (A1 (C3 (A1 (EF.e' (z6 (d:=tN [x,y,z]) (ds:=nI [x,y,z]) (A1 v1 A5) rfl (L9 _))) A5) ⟨[x,y,z],by simp,by simp,rfl,rfl⟩) A5))) (U9 _) (by exact U9 [TT.B5 [x,y,z]]) ?_)) A5) ?_) ?_
  .show((mkL m dr x y z 3).map tN).length+_<=_
   rw[Aa3,hM];unfold sizeLine;simp;lia
  .show N8 ((mkL m dr x y z 3).map tN++[tN (TT.B5 [x,y,z])])=true
   have:=U9 (mkL m dr x y z 3++[TT.B5 [x,y,z]])
   rw[Ad2]at this;exact this
  .show PyData.tuple _=PyData.tuple _
   rw[<- eL6 lb U bg,Ad2];rfl
theorem eU6 (T:Tx K mg a):FnOk P w K mg base CX0 2 a.bI3 a.bH2 ["_law_turn", "_law_place"] (spV K eM8):=by
 have j := @aX0 P w K mg base a T
 refine T.aK3.F.ok cA4 (Y7 (by rintro ds d ⟨_,_,_,_,e,_⟩;rw[e];rfl)) (λJ A X s H vs Q E R h=>?_)
 obtain⟨ds,S,d,M,r,⟨l,v,B,Y,rfl,rfl⟩,q⟩:=h;refine⟨_,(A7 (B7 (pcl j R T.R9 (A0 (U5 (T:=["_law_other"]) (N':=["_law_other", "_law_place"]) (is:=[1]) rfl (.of rfl rfl rfl (by exact⟨rfl,trivial⟩) rfl rfl rfl (by exact⟨⟨_,rfl,by first | exact .inl rfl | exact .inr rfl,by first | exact .inl rfl | exact .inr rfl⟩,trivial⟩)) (aN4 (pv 0)) (T3 (by decide)) λ_ _ _ _=>⟨(R5 (i:=0) (by decide +kernel:(["_law_other", "_law_place"]:AH).Nodup) rfl (Or.inl rfl)),(aY4 (B9 bH7 (pv 0) (pv 1) (D8 _))),(pv 0)⟩) A2)))),M0 M r ?_ q⟩
 have U:=U3 (K:=K) (m:=true) (ρ:=sl0 ["_law_turn", "_law_place"].length [tN l,.int (v:Int)]) (n:=1) (is:=[1]) (g:=M8 0) (tt:=p6 (tOp rNe (C7 0) (C7 1))) (te:=C7 0) (fWo v) (bI8 (ds:=nI l) v0) (by rw[G5];unfold sizeLine;lia) (λd N=>by
  obtain⟨z,_,rfl⟩:=bG7 N;refine⟨_,F8,?_⟩;have tt:=C1 (K:=K) (ρ:=[vI (z:Int),vI (v:Int)]) (aI3 v0 v1);show match (if decide ((z:Int)=(v:Int)) then none else some (PyData.int (z:Int))) with | none=>_ | some y=>_
  cases h:decide ((z:Int)=(v:Int)) with
  | true=>rw[h]at tt;exact tt
  | false=>rw[h]at tt;exact⟨tt,B0 (i:=0) rfl⟩)
 rw[cA7]at U;exact E9 (C3 (A1 (EF.e' U) A5) ⟨l.filter λx=>decide (x≠v),Y,Bd (List.length_filter_le _ _) (by lia),rfl,rfl⟩) rfl
theorem eP0 (T:Tx K mg a):FnOk P w K mg base CX0 3 a.aJ8 a.aN9 ["_law_turns", "_law_p", "_law_q"] (spV K eK7):=by
 have Y := @eE8 P w K mg base a T
 have X := @eU6 P w K mg base a T
 have U := @eF4 P w K mg base a T
 refine T.aM6.F.ok W1 (Y7 (by rintro ds d ⟨_,_,_,_,_,_,_,_,_,e,_⟩;rw[e];rfl)) (λcdv A outer s H vs Q E N h=>?_)
 obtain⟨ds,S,d,hS,r,⟨m,dr,tr,p,j,J,bg,B,hi,rfl,rfl⟩,q⟩:=h;refine⟨_,(A3 (psS 3 W1 (pcl Y N T.p9 (A0 (pv 0) (A0 (pv 1) (A0 (pv 2) A2)))))
   (A3 (psS 4 W1 (pcl Y N T.p9 (A0 (pv 0) (A0 (pv 2) (A0 (pv 1) A2)))))
   (A3 (L6 (B9 (dS5 K N) (pv 4) (B4 (ixK K) (pv 0) (pv 3) (λ_ _=>rfl)) rfl) (A7 (B7 (H9 (A0 (pv 3) (A0 (pv 4) A2))))) E1)
   (A3 (psS 5 W1 (K5 (bX8 K) (by rfl) T.v9 boot_list (A0 (pv 0) A2)))
   (A3 (aB2 (pcl X N T.aK3 (A0 (B4 (ixK K) (pv 5) (pv 1) (λ_ _=>rfl)) (A0 (pv 2) A2))) (aK5 (pv 5) (pv 1) m5))
   (A3 (aB2 (pcl X N T.aK3 (A0 (B4 (ixK K) (pv 5) (pv 2) (λ_ _=>rfl)) (A0 (pv 1) A2))) (aK5 (pv 5) (pv 2) m5))
   (A3 (aB2 (pcl U N T.z7 (A0 (B4 (ixK K) (pv 5) (pv 3) (λ_ _=>rfl)) (A0 (pv 1) (A0 (pv 4) A2)))) (aK5 (pv 5) (pv 3) m5))
   (A3 (aB2 (pcl U N T.z7 (A0 (B4 (ixK K) (pv 5) (pv 4) (λ_ _=>rfl)) (A0 (pv 2) (A0 (pv 3) A2)))) (aK5 (pv 5) (pv 4) m5))
   (A7 (B7 (K5 (cR3 K) (by rfl) T.S5 boot_tuple (A0 (pv 5) A2)))))))))))),M0 hS r ?_ q⟩
 have M:=J.len
 have m7:=J.m7
 have G:=J.good
 have s1:=G.sym B
 unfold dU0;generalize hu:TT.th (TT.trn dr) p j=u;generalize hv:TT.th (TT.trn dr) j p=v;refine A8 (E5 (d:=.int (u:Int)) (C3 (A1 v0 (A1 v1 (A1 v2 A5))) ⟨m,dr,tr,p,j,J,B,rfl,by rw[hu]⟩) ?_)
 refine A8 (E5 (d:=.int (v:Int)) (C3 (A1 v0 (A1 v2 (A1 v1 A5))) ⟨m,dr,tr,j,p,J,s1,rfl,by rw[hv]⟩) ?_)
 show W K _ [vD dr,vI (p:Int),vI (j:Int),vI (u:Int),vI (v:Int),.no] _
 have lu:u<m+3:=by
  have:=G.th B
  rw[hu]at this;exact J.lt (G.sym (TT.C6 this).2)
 have t1:=eF1 (K:=K) (m:=false) (ρ:=[vD dr,vI (p:Int),vI (j:Int),vI (u:Int),vI (v:Int),.no]) (d:=.int (v:Int)) (ds:=nI (TT.trn dr u)) v4 (C9 (ds:=dr.map tN) v0 v3 rfl (J.at_ lu)) rfl (bX9 _) (by rw[aI1];exact(V1 _).fit)
 rw[dU5]at t1;refine A8 (K9 (C1 t1) (λh=>?_) (λh=>E2 ?_))
 .rw[Ac (Aj h)];exact E9 (N3 (ds:=[.int (u:Int),.int (v:Int)]) (A1 v3 (A1 v4 A5))) rfl
 rw[Ab (Ar h)];have F:TT.Fl (TT.trn dr) p j u v:=⟨B,hu.symm,hv.symm,Ar h,hi⟩;obtain⟨n1,n2,n3,n4,n5,n6⟩:=F.ne G;have C:=F.fc G;have mq:=(TT.C6 C.q1).2;have mu:=(TT.C6 C.a1).1;have mv:=(TT.C6 C.b2).1;have lp:=J.lt F.h;have lq:=J.lt mq;have lv:=J.lt mv;have tp:=J.tle p;have tq:=J.tle j;have tu:=J.tle u;have tv:=J.tle v;have G':=G.flip F;have w1:=G'.two p lp;have w2:=G'.two j lq;rw[show TT.Q5 (TT.trn dr) p j u v p=TT.M4 (TT.trn dr p) j from Ac rfl]at w1
 rw[show TT.Q5 (TT.trn dr) p j u v j=TT.M4 (TT.trn dr j) p by unfold TT.Q5;rw[Ab (Ne.symm n1),Ac rfl]]at w2
 refine A8 (N2 (ds:=dr.map tN) (z6 (d:=.tuple (dr.map tN)) (A1 v0 A5) rfl (U9 _)) ?_ (show 5<6 by decide))
 have step:∀{D:AA} {x k:Nat} {row:AC},D.length=m+3->x<m+3->([vD dr,vI (p:Int),vI (j:Int),vI (u:Int),vI (v:Int),.own (D.map tN)]:List Sl)[k]? = some (.val (.int (x:Int)))->D[x]? = some row->LV.E K true (tOp (rIx K) (C7 5) (C7 k)) [vD dr,vI (p:Int),vI (j:Int),vI (u:Int),vI (v:Int),.own (D.map tN)] (tN row):=λ{D x k row} hD hx hk N=>LV.E.imm (m:=false) (C9 (ds:=D.map tN) (P6 (i:=5) rfl) (B0 (i:=k) hk) rfl (S1 x rfl (by rw[Aa9,N];rfl))) (aT0 _)
 have st:∀{D:AA} {x k:Nat} {l:AC} {te:TE} {R:AE},D.length=m+3->x<m+3->([vD dr,vI (p:Int),vI (j:Int),vI (u:Int),vI (v:Int),.own (D.map tN)]:List Sl)[k]? = some (.val (.int (x:Int)))->LV.E K true te [vD dr,vI (p:Int),vI (j:Int),vI (u:Int),vI (v:Int),.own (D.map tN)] (tN l)->R.nx [vD dr,vI (p:Int),vI (j:Int),vI (u:Int),vI (v:Int),.own ((D.set x l).map tN)]->W K (u8 te (dZ5 (C7 5) (C7 k) cU5)) [vD dr,vI (p:Int),vI (j:Int),vI (u:Int),vI (v:Int),.own (D.map tN)] R:=λ{D x k l te R} hD hx hk he hn=>
  bE4 (i:=5) x (d:=tN l) he rfl (B0 (i:=k) hk) rfl (by rw[Aa3];lia) (by
   show R.nx [_,_,_,_,_,Sl.own _]
   rw[<- List.map_set];exact hn)
 refine A8 (st (x:=p) (k:=1) (l:=TT.B5 (TT.M4 (TT.trn dr p) j)) M lp rfl (C3 (A1 (step M lp rfl (N5 (by lia))) (A1 v2 A5)) ⟨TT.trn dr p,j,by lia,(λz=>by rw[z]at w1;simp at w1),rfl,rfl⟩) ?_)
 have h1:(dr.set p (TT.B5 (TT.M4 (TT.trn dr p) j))).length=m+3:=by simp[M]
 refine A8 (st (x:=j) (k:=2) (l:=TT.B5 (TT.M4 (TT.trn dr j) p)) h1 lq rfl (C3 (A1 (step h1 lq rfl (by rw[Ad0 n1];exact N5 (by lia))) (A1 v1 A5)) ⟨TT.trn dr j,p,by lia,(λz=>by rw[z]at w2;simp at w2),rfl,rfl⟩) ?_)
 have h2:((dr.set p (TT.B5 (TT.M4 (TT.trn dr p) j))).set j (TT.B5 (TT.M4 (TT.trn dr j) p))).length=m+3:=by simp[M]
 refine A8 (st (x:=u) (k:=3) (l:=TT.B5 (TT.L4 (TT.trn dr u) p v)) h2 lu rfl (C3 (A1 (step h2 lu rfl (by rw[Ad0 (by lia),Ad0 (by lia)];exact N5 (by lia))) (A1 v1 (A1 v4 A5))) ⟨TT.trn dr u,p,v,mu,by lia,rfl,rfl⟩) ?_)
 have h3:(((dr.set p (TT.B5 (TT.M4 (TT.trn dr p) j))).set j (TT.B5 (TT.M4 (TT.trn dr j) p))).set u (TT.B5 (TT.L4 (TT.trn dr u) p v))).length=m+3:=by simp[M]
 refine A8 (st (x:=v) (k:=4) (l:=TT.B5 (TT.L4 (TT.trn dr v) j u)) h3 lv rfl (C3 (A1 (step h3 lv rfl (by rw[Ad0 (by lia),Ad0 (by lia),Ad0 (by lia)];exact N5 (by lia))) (A1 v2 (A1 v3 A5))) ⟨TT.trn dr v,j,u,mv,by lia,rfl,rfl⟩) ?_)
 refine E9 (Y8 (A1 (P6 (i:=5) rfl) A5) (U9 _)) ?_;show PyData.tuple ((mkF dr p j u v).map tN)=_;rw[dX4 J bg F]
end
set_option maxHeartbeats 1000000
inductive Td
 | put (a b c:Int)
 | take (p:Int)
 | flip (p q:Int)
def tdD:Td->PyData
 | .put a b c=>.tuple [.str "put",.int a,.int b,.int c]
 | .take p=>.tuple [.str "take",.int p]
 | .flip p q=>.tuple [.str "flip",.int p,.int q]
def deD (CP CT CF:Addr):Td->PyData
 | .put a b c=>pI3 CP a b c
 | .take p=>tI1 CT p
 | .flip p q=>fI CF p q
inductive Du
 | many
 | land
 | place
 | tie
 | pair (u v:Nat)
 | ok (D:AA)
def duD:Du->PyData
 | .many=>.str "many"
 | .land=>.str "land"
 | .place=>.str "place"
 | .tie=>.str "tie"
 | .pair u v=>tN [u,v]
 | .ok D=>.tuple (D.map tN)
inductive Due (m:Nat)(dr:AA):Td->Du->Prop
 | many {a b c:Int}:m=7->Due m dr (.put a b c) .many
 | land {a b c:Int}:m<=6->z5 [a,b,c]∉inn m dr->Due m dr (.put a b c) .land
 | put {x y z:Nat}:m<=6->Lb m dr x y z->Due m dr (.put x y z) (.ok (aW2 m dr x y z))
 | place {p:Int}:¬tkc m dr p->Due m dr (.take p) .place
 | take {x y z:Nat}:La (m+2) dr x y z->Due m dr (.take ((m+2:Nat):Int)) (.ok (V7 (m+2) dr))
 | tie {p q:Int}:it dr (p,q)=false->Due m dr (.flip p q) .tie
 | pair {p q u v:Nat}:Ft (TT.trn dr) p q u v->v∈TT.trn dr u->Due m dr (.flip p q) (.pair u v)
 | flip {p q u v:Nat}:TT.Fl (TT.trn dr) p q u v->Due m dr (.flip p q) (.ok (aR0 m dr p q u v))
section
variable {m:Nat}{dr tr:AA}
theorem eP3 (U:Dw m dr tr)(h:z5 [a,b,c]∈inn m dr):∃x y z:Nat,a=(x:Int)/\b=(y:Int)/\c=(z:Int)/\Lb m dr x y z:=by
 obtain⟨p,q,N,e,J⟩:=(cY5 U).mp h;have Y:Lb m dr p q (TT.th (TT.trn dr) p q):=⟨N,rfl,J⟩;have X:=Y.rot U;have M:=X.rot U;unfold TT.lnd at e;generalize TT.th (TT.trn dr) p q=r at *;rcases eY3 p q r with n | n | n <;> rw[n]at e <;> rcases eC4 a b c with g | g | g <;> rw[g]at e <;> simp only[cL,Ac7,By,Ax,and_true]at e <;> obtain⟨w,j,s⟩:=e
 .exact⟨p,q,r,w,j,s,Y⟩
 .exact⟨r,p,q,s,w,j,M⟩
 .exact⟨q,r,p,j,s,w,X⟩
 .exact⟨q,r,p,w,j,s,X⟩
 .exact⟨p,q,r,s,w,j,Y⟩
 .exact⟨r,p,q,j,s,w,M⟩
 .exact⟨r,p,q,w,j,s,M⟩
 .exact⟨q,r,p,s,w,j,X⟩
 .exact⟨p,q,r,j,s,w,Y⟩
theorem eK8 (w:Dw m dr tr):∀t:Td,∃du,Due m dr t du
 | .put a b c=>by
  have:=w.m7
  by_cases s:m=7
  .exact⟨_,.many s⟩
  by_cases h:z5 [a,b,c]∈inn m dr
  .obtain⟨x,y,z,rfl,rfl,rfl,N⟩:=eP3 w h;exact⟨_,.put (by lia) N⟩
  .exact⟨_,.land (by lia) h⟩
 | .take p=>by
  have s:=w.m7
  have M:=w.len
  by_cases h:tkc m dr p
  .obtain⟨rfl,j,r⟩:=h;have J:=N5 (dr:=dr) (p:=m+2) (by lia)
   match hr:TT.trn dr (m+2),r with
   | [x,y,z],_=>
    refine⟨_,.take (x:=x) (y:=y) (z:=z) ⟨by lia,by lia,by lia,by rw[J,hr],λl r=>?_⟩⟩
    obtain⟨i,hi,rfl⟩:=List.mem_iff_getElem.mp r;have e:=N5 hi;rw[Aa2 hi]at e;have U:=Ab4 e
    have:=w.tle i
    rw[U];lia
  .exact⟨_,.place h⟩
 | .flip p q=>by
  by_cases h:it dr (p,q)=true
  .unfold it td at h;simp only[Ap,Ak]at h;obtain⟨⟨⟨h1,R⟩,j⟩,Q⟩:=h;obtain⟨y,X,rfl⟩:=Aa8.mp j;obtain⟨x,rfl⟩:∃x:Nat,p=(x:Int):=⟨p.toNat,by lia⟩
   rw[Ac8]at X;have F:Ft (TT.trn dr) x y (TT.th (TT.trn dr) x y) (TT.th (TT.trn dr) y x):=⟨X,rfl,rfl,by lia⟩
   by_cases Y:TT.th (TT.trn dr) y x∈TT.trn dr (TT.th (TT.trn dr) x y)
   .exact⟨_,.pair F Y⟩
   .exact⟨_,.flip (F.fl Y)⟩
  .exact⟨_,.tie (by simpa using h)⟩
end
set_option maxHeartbeats 1000000
theorem bY4:B8 ["_law_told"] ["_law_told"] (A9 aJ5):={}
theorem aB1:B8 ["_law_e", "_law_found", "_law_rest"] ["_law_e"] (A9 aF1):={}
theorem sc__law_met:B8 ["_law_deed", "_law_drawing", "_law_by_back", "_law_found", "_law_e"] ["_law_deed", "_law_drawing", "_law_by_back"] (A9 aT1):={}
theorem D7 {K:Frag}{C D:Addr}(q:XCl K D)(s:PySem.W.subIn K (.ref C) (.ref D)=some false)(s':PySem.W.subIn K (.ref C) (.ref C)=some true):XIs K C (.ref D) false:=⟨q,s,λe=>by rw[e,s']at s;cases s⟩
theorem bQ4:typeOf (.type "ValueError")=pure (.type "type"):=by unfold typeOf;rfl
structure Kf (K:Frag)(a:Ad)(C:Addr)(b1 b2 b3 b4 b5:Bool):Prop where
 x:XAt K C
 q:XCl K C
 many:XIs K C (.ref a.F0) b1
 land:XIs K C (.ref a.G4) b2
 place:XIs K C (.ref a.E8) b3
 tie:XIs K C (.ref a.K1) b4
 tied:XIs K C (.ref a.G1) b5
 rest:dE9 K C [.ref a.M5,.ref a.L5,.ref a.O3,.ref a.O4,.ref a.Q1,.ref a.Q0,.ref a.F7] [false,false,false,false,false,false,false]
 ve:XIs K C (.ty "ValueError") true
def cJ4 (K:Frag)(a:Ad)(ds es:AF):Prop:=∃(C:Addr) (fs:List (Str×PyData)) (b1 b2 b3 b4 b5:Bool),Kf K a C b1 b2 b3 b4 b5/\ds=[xfD C fs]/\es=[.bool b1,.bool b2,.bool b3,.bool b4,.bool b5,.bool false]
def cW8 (a:Ad)(ds:AF)(d:PyData):Prop:=∃t:Td,ds=[tdD t]/\d=deD a.D9 a.C8 a.C5 t
section
variable {P:Program}{w:World}{K:Frag}{mg:Str->Option Value}{base:Heap}{a:Ad}
theorem cO5 (T:Tx K mg a):Kf K a a.F0 true false false false false:=⟨T.bF1,T.t6,⟨T.t6,(B2 T.D5 10 rfl),λ_=>rfl⟩,D7 T.aC5 (B2 T.D5 6 rfl) (B2 T.D5 10 rfl),D7 T.t7 (B2 T.D5 7 rfl) (B2 T.D5 10 rfl),D7 T.aP6 (B2 T.D5 8 rfl) (B2 T.D5 10 rfl),D7 T.bF4 (B2 T.D5 4 rfl) (B2 T.D5 10 rfl),⟨D7 T.u4 (B2 T.D5 5 rfl) (B2 T.D5 10 rfl),D7 T.l5 (B2 T.D5 1 rfl) (B2 T.D5 10 rfl),D7 T.aK4 (B2 T.D5 11 rfl) (B2 T.D5 10 rfl),D7 T.aN8 (B2 T.D5 9 rfl) (B2 T.D5 10 rfl),D7 T.aM8 (B2 T.D5 2 rfl) (B2 T.D5 10 rfl),D7 T.aM9 (B2 T.D5 3 rfl) (B2 T.D5 10 rfl),D7 T.V4 (B2 T.D5 12 rfl) (B2 T.D5 10 rfl),trivial⟩,⟨bQ4,(B2 T.D5 13 rfl)⟩⟩
theorem dA8 (T:Tx K mg a):Kf K a a.G4 false true false false false:=⟨T.bO8,T.aC5,D7 T.t6 (B2 T.E4 10 rfl) (B2 T.E4 6 rfl),⟨T.aC5,(B2 T.E4 6 rfl),λ_=>rfl⟩,D7 T.t7 (B2 T.E4 7 rfl) (B2 T.E4 6 rfl),D7 T.aP6 (B2 T.E4 8 rfl) (B2 T.E4 6 rfl),D7 T.bF4 (B2 T.E4 4 rfl) (B2 T.E4 6 rfl),⟨D7 T.u4 (B2 T.E4 5 rfl) (B2 T.E4 6 rfl),D7 T.l5 (B2 T.E4 1 rfl) (B2 T.E4 6 rfl),D7 T.aK4 (B2 T.E4 11 rfl) (B2 T.E4 6 rfl),D7 T.aN8 (B2 T.E4 9 rfl) (B2 T.E4 6 rfl),D7 T.aM8 (B2 T.E4 2 rfl) (B2 T.E4 6 rfl),D7 T.aM9 (B2 T.E4 3 rfl) (B2 T.E4 6 rfl),D7 T.V4 (B2 T.E4 12 rfl) (B2 T.E4 6 rfl),trivial⟩,⟨bQ4,(B2 T.E4 13 rfl)⟩⟩
theorem cN3 (T:Tx K mg a):Kf K a a.E8 false false true false false:=⟨T.bF0,T.t7,D7 T.t6 (B2 T.D4 10 rfl) (B2 T.D4 7 rfl),D7 T.aC5 (B2 T.D4 6 rfl) (B2 T.D4 7 rfl),⟨T.t7,(B2 T.D4 7 rfl),λ_=>rfl⟩,D7 T.aP6 (B2 T.D4 8 rfl) (B2 T.D4 7 rfl),D7 T.bF4 (B2 T.D4 4 rfl) (B2 T.D4 7 rfl),⟨D7 T.u4 (B2 T.D4 5 rfl) (B2 T.D4 7 rfl),D7 T.l5 (B2 T.D4 1 rfl) (B2 T.D4 7 rfl),D7 T.aK4 (B2 T.D4 11 rfl) (B2 T.D4 7 rfl),D7 T.aN8 (B2 T.D4 9 rfl) (B2 T.D4 7 rfl),D7 T.aM8 (B2 T.D4 2 rfl) (B2 T.D4 7 rfl),D7 T.aM9 (B2 T.D4 3 rfl) (B2 T.D4 7 rfl),D7 T.V4 (B2 T.D4 12 rfl) (B2 T.D4 7 rfl),trivial⟩,⟨bQ4,(B2 T.D4 13 rfl)⟩⟩
theorem dN1 (T:Tx K mg a):Kf K a a.K1 false false false true false:=⟨T.bY9,T.aP6,D7 T.t6 (B2 T.F9 10 rfl) (B2 T.F9 8 rfl),D7 T.aC5 (B2 T.F9 6 rfl) (B2 T.F9 8 rfl),D7 T.t7 (B2 T.F9 7 rfl) (B2 T.F9 8 rfl),⟨T.aP6,(B2 T.F9 8 rfl),λ_=>rfl⟩,D7 T.bF4 (B2 T.F9 4 rfl) (B2 T.F9 8 rfl),⟨D7 T.u4 (B2 T.F9 5 rfl) (B2 T.F9 8 rfl),D7 T.l5 (B2 T.F9 1 rfl) (B2 T.F9 8 rfl),D7 T.aK4 (B2 T.F9 11 rfl) (B2 T.F9 8 rfl),D7 T.aN8 (B2 T.F9 9 rfl) (B2 T.F9 8 rfl),D7 T.aM8 (B2 T.F9 2 rfl) (B2 T.F9 8 rfl),D7 T.aM9 (B2 T.F9 3 rfl) (B2 T.F9 8 rfl),D7 T.V4 (B2 T.F9 12 rfl) (B2 T.F9 8 rfl),trivial⟩,⟨bQ4,(B2 T.F9 13 rfl)⟩⟩
theorem dW4 (T:Tx K mg a):Kf K a a.G1 false false false false true:=⟨T.cO2,T.bF4,D7 T.t6 (B2 T.K0 10 rfl) (B2 T.K0 4 rfl),D7 T.aC5 (B2 T.K0 6 rfl) (B2 T.K0 4 rfl),D7 T.t7 (B2 T.K0 7 rfl) (B2 T.K0 4 rfl),D7 T.aP6 (B2 T.K0 8 rfl) (B2 T.K0 4 rfl),⟨T.bF4,(B2 T.K0 4 rfl),λ_=>rfl⟩,⟨D7 T.u4 (B2 T.K0 5 rfl) (B2 T.K0 4 rfl),D7 T.l5 (B2 T.K0 1 rfl) (B2 T.K0 4 rfl),D7 T.aK4 (B2 T.K0 11 rfl) (B2 T.K0 4 rfl),D7 T.aN8 (B2 T.K0 9 rfl) (B2 T.K0 4 rfl),D7 T.aM8 (B2 T.K0 2 rfl) (B2 T.K0 4 rfl),D7 T.aM9 (B2 T.K0 3 rfl) (B2 T.K0 4 rfl),D7 T.V4 (B2 T.K0 12 rfl) (B2 T.K0 4 rfl),trivial⟩,⟨bQ4,(B2 T.K0 13 rfl)⟩⟩
theorem dL6 (T:Tx K mg a):cX9 P w K mg base 1 a.bA2 a.aV4 ["_law_e"] (spL K (cJ4 K a)):=by
 refine T.S3.F.okU aB1 (cP0 (by rintro ds d ⟨_,_,_,_,_,_,_,_,e,_⟩;rw[e];rfl)) (λR A M s H vs Q E hr h=>?_)
 obtain⟨ds,S,es,B,r,⟨C,fs,Y,X,U,J,N,j,rfl,rfl⟩,q⟩:=h;refine⟨_,(A3 (psS 1 aB1 (D6 (A0 (C0 (j6 K) (by rfl) T.G9 boot_isinstance (A0 (pv 0) (A0 (P8 (v:=.ref a.F0) rfl T.bX2 rfl) A2))) (A0 (C0 (j6 K) (by rfl) T.G9 boot_isinstance (A0 (pv 0) (A0 (P8 (v:=.ref a.G4) rfl T.cG0 rfl) A2))) (A0 (C0 (j6 K) (by rfl) T.G9 boot_isinstance (A0 (pv 0) (A0 (P8 (v:=.ref a.E8) rfl T.bV8 rfl) A2))) (A0 (C0 (j6 K) (by rfl) T.G9 boot_isinstance (A0 (pv 0) (A0 (P8 (v:=.ref a.K1) rfl T.cU6 rfl) A2))) A2))))))
   (A3 (psS 2 aB1 (C0 (j6 K) (by rfl) T.G9 boot_isinstance (A0 (pv 0) (A0 (H9 (A0 (P8 (v:=.ref a.M5) rfl T.cS3 rfl) (A0 (P8 (v:=.ref a.L5) rfl T.cL2 rfl) (A0 (P8 (v:=.ref a.O3) rfl T.dQ8 rfl) (A0 (P8 (v:=.ref a.O4) rfl T.dK7 rfl) (A0 (P8 (v:=.ref a.Q1) rfl T.dO6 rfl) (A0 (P8 (v:=.ref a.Q0) rfl T.dO2 rfl) (A0 (P8 (v:=.ref a.F7) rfl T.bR3 rfl) A2)))))))) A2))))
   (A7 (B7 (B1 (O5 K) (pv 1) (D6 (A0 (C0 (j6 K) (by rfl) T.G9 boot_isinstance (A0 (pv 0) (A0 (P8 (v:=.ref a.G1) rfl T.cD3 rfl) A2))) (A0 (eO8 (pv 2) (bZ9 (dF6 (C0 (j6 K) (by rfl) T.G9 boot_isinstance (A0 (pv 0) (A0 (bW8 rfl T.aF3 PyProof.Rows.Boot.«ValueError») A2)))))) A2)))))))),aS3 B r ?_ q⟩
 have is:=λ{ρ:List Sl} {D:Addr} {b:Bool} (h0:ρ[0]? = some (.val (xfD C fs))) (h:XIs K C (.ref D) b) (mm:Bool)=>dH1 (K:=K) (m:=mm) (ρ := ρ) (ta:=C7 0) (fs:=fs) (B0 (i:=0) h0) j.x j.q h
 refine A8 (N2 (ds:=[.bool Y,.bool X,.bool U,.bool J]) (G3 (A1 (is rfl j.many _) (A1 (is rfl j.land _) (A1 (is rfl j.place _) (A1 (is rfl j.tie _) A5))))) ?_ (show 1<3 by decide))
 refine bG8 (i:=1) rfl ?_;refine A8 (E5 (d:=.bool false) (eA3 (fs:=fs) (bs:=[false,false,false,false,false,false,false]) v0 j.x j.q (λσ H Q h=>h) j.rest (show 7<=sizeLine by decide)) ?_)
 show W K _ [.val (xfD C fs),.val (.list [.bool Y,.bool X,.bool U,.bool J]),.val (.bool false)] _
 exact bF3 (aN7 (ds:=[.bool Y,.bool X,.bool U,.bool J]) (es:=[.bool N,.bool false]) v1 (EF.e' (G3 (A1 (is rfl j.tied _) (A1 (eX9 (a:=false) (b:=false) v2 λ_=>eC1 (a:=true) (dH1 (fs:=fs) v0 j.x j.q j.ve)) A5)))) rfl rfl (show 6<=sizeLine by decide)) rfl
theorem dL3 (T:Tx K mg a)(t:Td)(F:∀p q r,t=.put p q r->LV.E K true tP (sl0 [x].length [tdD t]) (pI3 a.D9 p q r))(B:∀p,t=.take p->LV.E K true tT (sl0 [x].length [tdD t]) (tI1 a.C8 p))(Q:∀p q,t=.flip p q->LV.E K true tF (sl0 [x].length [tdD t]) (fI a.C5 p q))(U:R.rt (deD a.D9 a.C8 a.C5 t)) :
  W K (cC0 (bN3 (p6 (tOp (bR6 K false) (tOp (rIx K) (C7 0) (tC (.int 0))) (tC (.str "put")))) (bZ1 tP) bW9) (cC0 (bN3 (p6 (tOp (bR6 K false) (tOp (rIx K) (C7 0) (tC (.int 0))) (tC (.str "take")))) (bZ1 tT) bW9) (bZ1 tF))) (sl0 [x].length [tdD t]) R:=by
 have f1:Fit (.str "put"):=(bQ0 (by decide +kernel)).fit
 have f2:Fit (.str "take"):=(bQ0 (by decide +kernel)).fit
 have f3:Fit (.str "flip"):=(bQ0 (by decide +kernel)).fit
 have j:∀{s Y:Str} {b:Bool} {X:AF},Fit (.str s)->Fit (.str Y)->PyData.eqv (.str s) (.str Y)=b->tdD t=.tuple (.str s::X)->LV.T K (p6 (tOp (bR6 K false) (tOp (rIx K) (C7 0) (tC (.int 0))) (tC (.str Y)))) (sl0 [x].length [tdD t]) b:=λ{s Y b X} M N e J=>by
  have h:=cY0 (K:=K) (m:=false) (ρ:=sl0 [x].length [tdD t]) (C9 (ds:=.str s::X) (Eq.mp (congrArg (LV.E K false (C7 0) (sl0 [x].length [tdD t])) J) v0) (A6 (i:=0)) rfl (S1 0 rfl rfl)) (O1 (x:=Y)) M N
  rw[e]at h;exact C1 h
 cases t with
 | put p q r=>exact A8 (K9 (j (b:=true) f1 f1 (by decide +kernel) rfl) (λ_=>E9 (F p q r rfl) U) (λh=>by cases h))
 | take p=>exact A8 (K9 (j (b:=false) f2 f1 (by decide +kernel) rfl) (λh=>by cases h) (λ_=>E2 (A8 (K9 (j (b:=true) f2 f2 (by decide +kernel) rfl) (λ_=>E9 (B p rfl) U) (λh=>by cases h)))))
 | flip p q=>exact A8 (K9 (j (b:=false) f3 f1 (by decide +kernel) rfl) (λh=>by cases h) (λ_=>E2 (A8 (K9 (j (b:=false) f3 f2 (by decide +kernel) rfl) (λh=>by cases h) (λ_=>E2 (E9 (Q p q rfl) U))))))
theorem dT8 (T:Tx K mg a):FnOk P w K mg base CX0 3 a.bH5 a.bH3 ["_law_told"] (spV K (cW8 a)):=by
 have X := @dR8 P w K mg base a T
 have Y := @dJ9 P w K mg base a T
 have j := @dL5 P w K mg base a T
 refine T.bH6.F.ok bY4 (Y7 (by rintro ds d ⟨_,e,_⟩;rw[e];rfl)) (λB A R s H vs Q E M h=>?_)
 obtain⟨ds,S,d,hS,r,⟨t,rfl,rfl⟩,q⟩:=h;refine⟨_,(A3 (L6 (B9 (aM5 K M) (B4 (ixK K) (pv 0) A4 (λ_ _=>rfl)) K2 (D8 _)) (A7 (B7 (t5 T.bM7 X (M.mono (by decide)) rfl T.dI5 T.aT2 .nil aI4 (A0 (B4 (ixK K) (pv 0) A4 (λ_ _=>rfl)) (A0 (B4 (ixK K) (pv 0) A4 (λ_ _=>rfl)) (A0 (B4 (ixK K) (pv 0) A4 (λ_ _=>rfl)) A2)))))) E1)
   (A3 (L6 (B9 (aM5 K M) (B4 (ixK K) (pv 0) A4 (λ_ _=>rfl)) K2 (D8 _)) (A7 (B7 (t5 T.aW5 Y (M.mono (by decide)) rfl T.cN6 T.aJ2 .nil aI4 (A0 (B4 (ixK K) (pv 0) A4 (λ_ _=>rfl)) A2)))) E1)
   (A7 (B7 (t5 T.bA7 j (M.mono (by decide)) rfl T.cQ6 T.aN1 .nil aI4 (A0 (B4 (ixK K) (pv 0) A4 (λ_ _=>rfl)) (A0 (B4 (ixK K) (pv 0) A4 (λ_ _=>rfl)) A2))))))),M0 hS r ?_ q⟩
 exact dL3 T t (λU J N e=>by subst e;exact aG6 (is:=[U,J,N]) (A1 (C9 (ds:=[.str "put",.int U,.int J,.int N]) v0 (A6 (i:=1)) rfl rfl) (A1 (C9 (ds:=[.str "put",.int U,.int J,.int N]) v0 (A6 (i:=2)) rfl rfl) (A1 (C9 (ds:=[.str "put",.int U,.int J,.int N]) v0 (A6 (i:=3)) rfl rfl) A5))) rfl) (λU e=>by subst e;exact aG6 (is:=[U]) (A1 (C9 (ds:=[.str "take",.int U]) v0 (A6 (i:=1)) rfl rfl) A5) rfl) (λU J e=>by subst e;exact aG6 (is:=[U,J]) (A1 (C9 (ds:=[.str "flip",.int U,.int J]) v0 (A6 (i:=1)) rfl rfl) (A1 (C9 (ds:=[.str "flip",.int U,.int J]) v0 (A6 (i:=2)) rfl rfl) A5)) rfl) rfl
theorem eP4 (T:Tx K mg a):FnOk P w K mg base CX0 3 a.bV0 a.bU3 ["told"] (spV K (cW8 a)):=by
 have X := @dR8 P w K mg base a T
 have Y := @dJ9 P w K mg base a T
 have j := @dL5 P w K mg base a T
 refine T.bT1.F.ok cM4 (Y7 (by rintro ds d ⟨_,e,_⟩;rw[e];rfl)) (λB A R s H vs Q E M h=>?_)
 obtain⟨ds,S,d,hS,r,⟨t,rfl,rfl⟩,q⟩:=h;refine⟨_,(A3 (L6 (B9 (aM5 K M) (B4 (ixK K) (pv 0) A4 (λ_ _=>rfl)) K2 (D8 _)) (A7 (B7 (t5 T.bM7 X (M.mono (by decide)) rfl T.dI5 T.aT2 .nil aI4 (A0 (B4 (ixK K) (pv 0) A4 (λ_ _=>rfl)) (A0 (B4 (ixK K) (pv 0) A4 (λ_ _=>rfl)) (A0 (B4 (ixK K) (pv 0) A4 (λ_ _=>rfl)) A2)))))) E1)
   (A3 (L6 (B9 (aM5 K M) (B4 (ixK K) (pv 0) A4 (λ_ _=>rfl)) K2 (D8 _)) (A7 (B7 (t5 T.aW5 Y (M.mono (by decide)) rfl T.cN6 T.aJ2 .nil aI4 (A0 (B4 (ixK K) (pv 0) A4 (λ_ _=>rfl)) A2)))) E1)
   (A7 (B7 (t5 T.bA7 j (M.mono (by decide)) rfl T.cQ6 T.aN1 .nil aI4 (A0 (B4 (ixK K) (pv 0) A4 (λ_ _=>rfl)) (A0 (B4 (ixK K) (pv 0) A4 (λ_ _=>rfl)) A2))))))),M0 hS r ?_ q⟩
 exact dL3 T t (λU J N e=>by subst e;exact aG6 (is:=[U,J,N]) (A1 (C9 (ds:=[.str "put",.int U,.int J,.int N]) v0 (A6 (i:=1)) rfl rfl) (A1 (C9 (ds:=[.str "put",.int U,.int J,.int N]) v0 (A6 (i:=2)) rfl rfl) (A1 (C9 (ds:=[.str "put",.int U,.int J,.int N]) v0 (A6 (i:=3)) rfl rfl) A5))) rfl) (λU e=>by subst e;exact aG6 (is:=[U]) (A1 (C9 (ds:=[.str "take",.int U]) v0 (A6 (i:=1)) rfl rfl) A5) rfl) (λU J e=>by subst e;exact aG6 (is:=[U,J]) (A1 (C9 (ds:=[.str "flip",.int U,.int J]) v0 (A6 (i:=1)) rfl rfl) (A1 (C9 (ds:=[.str "flip",.int U,.int J]) v0 (A6 (i:=2)) rfl rfl) A5)) rfl) rfl
end
set_option maxHeartbeats 1000000
def cM3 (a:Ad):Du->Addr
 | .many=>a.F0
 | .land=>a.G4
 | .place=>a.E8
 | .tie=>a.K1
 | _=>a.G1
def cM6:Du->List (Str×PyData)
 | .pair u v=>[("pair",tN [u,v])]
 | _=>[]
def bls:Du->AF
 | .many=>[.bool true,.bool false,.bool false,.bool false,.bool false,.bool false]
 | .land=>[.bool false,.bool true,.bool false,.bool false,.bool false,.bool false]
 | .place=>[.bool false,.bool false,.bool true,.bool false,.bool false,.bool false]
 | .tie=>[.bool false,.bool false,.bool false,.bool true,.bool false,.bool false]
 | _=>[.bool false,.bool false,.bool false,.bool false,.bool true,.bool false]
def prD:Du->PyData
 | .pair u v=>tN [u,v]
 | _=>.none
def aQ6:Du->Prop
 | .ok _=>False
 | _=>True
def aB8 (du:Du):AF:=[.str "refused",.list (bls du),prD du]
def eK2:Du->PyData
 | .ok D=>.tuple (D.map tN)
 | du=>.list (aB8 du)
theorem cF0 (h:aQ6 du):eK2 du=.list (aB8 du):=by cases du <;> first | rfl | exact h.elim
def dN6 (a:Ad)(ds:AF)(d:PyData):Prop:=∃(m:Nat) (dr tr:AA) (t:Td) (du:Du) (b:Bool),Dw m dr tr/\Due m dr t du/\(b=true->aQ6 du)/\ds=[deD a.D9 a.C8 a.C5 t,tD dr,.bool b]/\d=eK2 du
section
variable {P:Program}{w:World}{K:Frag}{mg:Str->Option Value}{base:Heap}{a:Ad}
theorem eW7 (T:Tx K mg a)(h:aQ6 du)(fs:List (Str×PyData)):cJ4 K a [xfD (cM3 a du) fs] (bls du):=by
 cases du with
 | many=>exact⟨_,fs,_,_,_,_,_,cO5 T,rfl,rfl⟩
 | land=>exact⟨_,fs,_,_,_,_,_,dA8 T,rfl,rfl⟩
 | place=>exact⟨_,fs,_,_,_,_,_,cN3 T,rfl,rfl⟩
 | tie=>exact⟨_,fs,_,_,_,_,_,dN1 T,rfl,rfl⟩
 | pair u v=>exact⟨_,fs,_,_,_,_,_,dW4 T,rfl,rfl⟩
 | ok D=>exact h.elim
abbrev PXa (a:Ad):=cW1 a.D9 a.F0 a.G4
abbrev TXa (a:Ad):=cS9 a.C8 a.E8
abbrev FXa (a:Ad):=cI0 a.C5 a.G1 a.K1
theorem dY6 (e:Dw m dr tr)(h:Due m dr t du)(h0:ρ[0]? = some (.val (deD a.D9 a.C8 a.C5 t)))(h1:ρ[1]? = some (.val (.tuple (dr.map tN))))(r:∀D,du=.ok D->R.nx (ρ.set 3 (.val (.tuple (D.map tN)))))(s:aQ6 du->XP (cM3 a du) (cM6 du)) :
  WX K (bP3 (λEX=>u8 (i6 a.D9 "done" (spF K (eE3 a.D9) (PXa a)) [] EX (C7 0) (E7 (C7 1) R6)) (M8 3)) (bP3 (λEX=>u8 (i6 a.C8 "done" (spF K (eB7 a.C8) (TXa a)) [] EX (C7 0) (E7 (C7 1) R6)) (M8 3)) (λEX=>u8 (i6 a.C5 "done" (spF K (eB8 a.C5) (FXa a)) [] EX (C7 0) (E7 (C7 1) R6)) (M8 3)))) ρ R XP:=by
 cases h with
 | many j=>exact cL9 (aZ4 (B0 h0) rfl (A1 (B0 h1) A5) ⟨rfl,m,dr,tr,_,_,_,e,rfl,.inl ⟨j,rfl⟩⟩ (s trivial))
 | land j hi=>exact cL9 (aZ4 (B0 h0) rfl (A1 (B0 h1) A5) ⟨rfl,m,dr,tr,_,_,_,e,rfl,.inr ⟨j,hi,rfl⟩⟩ (s trivial))
 | put j M=>exact cL9 (cQ9 (B0 h0) rfl (A1 (B0 h1) A5) ⟨m,dr,tr,_,_,_,e,j,M,rfl,rfl⟩ (r _ rfl))
 | place U=>exact bE6 (cL9 (aZ4 (B0 h0) rfl (A1 (B0 h1) A5) ⟨rfl,m,dr,tr,_,e,rfl,U,rfl⟩ (s trivial)))
 | take J=>exact bE6 (cL9 (cQ9 (B0 h0) rfl (A1 (B0 h1) A5) ⟨_,dr,_,_,_,J,rfl,rfl⟩ (r _ rfl)))
 | tie Y=>exact bE6 (bE6 (aZ4 (B0 h0) rfl (A1 (B0 h1) A5) (.inr ⟨rfl,m,dr,tr,_,_,e,Y,rfl,rfl⟩) (s trivial)))
 | pair F X=>exact bE6 (bE6 (aZ4 (B0 h0) rfl (A1 (B0 h1) A5) (.inl ⟨rfl,m,dr,tr,_,_,_,_,e,F,X,rfl,rfl⟩) (s trivial)))
 | flip F=>exact bE6 (bE6 (cQ9 (B0 h0) rfl (A1 (B0 h1) A5) ⟨m,dr,tr,_,_,_,_,e,F,rfl,rfl⟩ (r _ rfl)))
theorem eB2 (e:Dw m dr tr)(h:Due m dr t du)(s:aQ6 du)(h0:ρ[0]? = some (.val (deD a.D9 a.C8 a.C5 t)))(h1:ρ[1]? = some (.val (.tuple (dr.map tN))))(r:XP (cM3 a du) (cM6 du)) :
  WX K (bP3 (λEX=>aE0 (i6 a.D9 "back" (spF K (eD3 a.D9 a.C8) (PXa a)) [] EX (C7 0) (E7 (C7 1) R6))) (bP3 (λEX=>aE0 (i6 a.C8 "back" (spF K (eC9 a.C8 a.D9) (TXa a)) [] EX (C7 0) (E7 (C7 1) R6))) (λEX=>aE0 (i6 a.C5 "back" (spF K (eC7 a.C5) (FXa a)) [] EX (C7 0) (E7 (C7 1) R6))))) ρ R XP:=by
 cases h with
 | many j=>exact cL9 (aO4 (B0 h0) rfl (A1 (B0 h1) A5) ⟨rfl,m,dr,tr,_,_,_,e,rfl,.inl ⟨j,rfl⟩⟩ r)
 | land j hi=>exact cL9 (aO4 (B0 h0) rfl (A1 (B0 h1) A5) ⟨rfl,m,dr,tr,_,_,_,e,rfl,.inr ⟨j,hi,rfl⟩⟩ r)
 | place U=>exact bE6 (cL9 (aO4 (B0 h0) rfl (A1 (B0 h1) A5) ⟨rfl,m,dr,tr,_,e,rfl,U,rfl⟩ r))
 | tie Y=>exact bE6 (bE6 (aO4 (B0 h0) rfl (A1 (B0 h1) A5) (.inr ⟨rfl,m,dr,tr,_,_,e,Y,rfl,rfl⟩) r))
 | pair F X=>exact bE6 (bE6 (aO4 (B0 h0) rfl (A1 (B0 h1) A5) (.inl ⟨rfl,m,dr,tr,_,_,_,_,e,F,X,rfl,rfl⟩) r))
 | put _ _=>exact s.elim
 | take _=>exact s.elim
 | flip _=>exact s.elim
theorem cX4 (h:PySem.W.subIn K (.ref C) (.ref D)=some false):L2.subIn K C (.ref D)=false:=by
 have h:PySem.W.mroIn K C (.ref D)=some false:=h
 unfold PySem.W.mroIn at h;obtain⟨r,a,b⟩:=Option.bind_eq_some_iff.mp h;split at b
 .cases b
 .unfold PySem.W.clsIn at a;unfold L2.subIn
  revert a
  split
  .rename_i e;intro z;cases z;rw[e];simpa using b
  .intro z;cases z
theorem eN9 (T:Tx K mg a):FnOk P w K mg base CX0 8 a.bP5 a.bM4 ["_law_deed", "_law_drawing", "_law_by_back"] (spV K (dN6 a)):=by
 have B:FnOk P w K mg base (CXd P w) 7 _ _ _ _:=eU3 T
 have R:FnOk P w K mg base (CXd P w) 7 _ _ _ _:=eQ8 T
 have N:FnOk P w K mg base (CXd P w) 2 _ _ _ _:=eT1 T
 have M:FnOk P w K mg base (CXd P w) 3 _ _ _ _:=eQ9 T
 have J:FnOk P w K mg base (CXd P w) 4 _ _ _ _:=eV9 T
 have U:FnOk P w K mg base (CXd P w) 4 _ _ _ _:=eS1 T
 have Y:cX9 P w K mg base 1 _ _ _ _:=dL6 T
 refine T.aS1.F.ok sc__law_met (Y7 (by rintro ds d ⟨_,_,_,_,_,_,_,_,_,e,_⟩;rw[e];rfl)) (λcdv A outer s H vs Q E hr h=>?_)
 obtain⟨ds,S,d,hS,r,⟨m,dr,tr,t,du,b,dw,hd,hb,rfl,rfl⟩,q⟩:=h;refine⟨_,(A3 (psS 3 sc__law_met bE7)
   (A3 (dJ0 (j:=4) (eH8 (y7 (pv 2)) (bJ3 (bG1 (pv 0) T.P4 T.cH0 R (hr.mono (by decide)) T.cS4 .nil (A0 (pv 1) A2)) (bJ3 (bG1 (pv 0) T.W0 T.cC9 M (hr.mono (by decide)) T.cG2 .nil (A0 (pv 1) A2)) (bG1 (pv 0) T.T0 T.cE5 U (hr.mono (by decide)) T.cF4 .nil (A0 (pv 1) A2)))) (bJ3 (bG5 (i:=3) sc__law_met.nd rfl (Or.inl rfl) (pv 0) T.P4 T.cH8 B (hr.mono (by decide)) T.cQ1 .nil (A0 (pv 1) A2)) (bJ3 (bG5 (i:=3) sc__law_met.nd rfl (Or.inl rfl) (pv 0) T.W0 T.cB3 N (hr.mono (by decide)) T.cH1 .nil (A0 (pv 1) A2)) (bG5 (i:=3) sc__law_met.nd rfl (Or.inl rfl) (pv 0) T.T0 T.cB5 J (hr.mono (by decide)) T.cK9 .nil (A0 (pv 1) A2))))) rfl T.cD3 T.o7.ek rfl T.aW8 (aD8 T.r9) sc__law_met.nd rfl rfl rfl rfl (λe=>A7 (psS 3 sc__law_met (D6 (A0 K2 (A0 (cF8 Y (hr.u.mark.mono (by decide)) rfl T.S3.m T.S3.F.kp T.S3.b .nil (A0 (pv 4) A2)) (A0 (eQ5 K (pv 4) rfl) A2)))))) (λe=>A7 (psS 3 sc__law_met (D6 (A0 K2 (A0 (cF8 Y (hr.u.mark.mono (by decide)) rfl T.S3.m T.S3.F.kp T.S3.b .nil (A0 (pv 4) A2)) (A0 bE7 A2)))))))
   (A7 (B7 (pv 3))))),M0 hS r ?_ q⟩
 refine A8 (E5 (d:=.none) bB6 ?_);show W K _ [.val (deD a.D9 a.C8 a.C5 t),vD dr,.val (.bool b),.val .none,.no] _;have hk:aQ6 du->∀(mm:Bool) (x3:Sl),EF K (V3 (spL K (cJ4 K a)) [] E0 (E7 (C7 4) R6)) [.val (deD a.D9 a.C8 a.C5 t),vD dr,.val (.bool b),x3,.val (xfD (cM3 a du) (cM6 du))] (bls du):=λhr mm x3=>s9 (pre:=cJ4 K a) (X:=E0) (A1 v4 A5) (eW7 T hr (cM6 du))
 refine A8 (eJ1 (XP:=λC gs=>aQ6 du/\C=cM3 a du/\gs=cM6 du) (eU8 (t_b v2) (λe=>?_) (λe=>?_)) ?_)
 .subst e;exact eB2 dw hd (hb rfl) rfl rfl ⟨hb rfl,rfl,rfl⟩
 .refine dY6 dw hd rfl rfl (λD e=>?_) (λhr=>⟨hr,rfl,rfl⟩)
  subst e;exact E9 v3 rfl
 .rintro _ _ ⟨hr,rfl,rfl⟩;have fin:∀{t2:TE} {R':AE},R'.rt (.list (aB8 du))->LV.E K true t2 [.val (deD a.D9 a.C8 a.C5 t),vD dr,.val (.bool b),.val .none,.val (xfD (cM3 a du) (cM6 du))] (prD du)->W K (u8 (dK1 (E7 (tC (.str "refused")) (E7 (V3 (spL K (cJ4 K a)) [] E0 (E7 (C7 4) R6)) (E7 t2 R6)))) (M8 3)) [.val (deD a.D9 a.C8 a.C5 t),vD dr,.val (.bool b),.val .none,.val (xfD (cM3 a du) (cM6 du))] {nx:=λρ'=>W K (bZ1 (C7 3)) (ρ'.set 4 .no) R'}:=λ{t2 R'} hR h2=>by
   refine N2 (ds:=aB8 du) (G3 (A1 O1 (A1 (EF.e' (hk hr true _)) (A1 h2 A5))) (show 3<=sizeLine by decide)) ?_ (show 3<5 by decide)
   refine bG8 (i:=3) rfl ?_;exact E9 v3 hR
  cases du with
  | many=>exact⟨aD8 T.aO9,.inr ⟨cX4 (B2 T.D5 4 rfl),bO2 (B2 T.D5 0 rfl),fin rfl bB6⟩⟩
  | land=>exact⟨aD8 T.aY8,.inr ⟨cX4 (B2 T.E4 4 rfl),bO2 (B2 T.E4 0 rfl),fin rfl bB6⟩⟩
  | place=>exact⟨aD8 T.aO5,.inr ⟨cX4 (B2 T.D4 4 rfl),bO2 (B2 T.D4 0 rfl),fin rfl bB6⟩⟩
  | tie=>exact⟨aD8 T.bK9,.inr ⟨cX4 (B2 T.F9 4 rfl),bO2 (B2 T.F9 0 rfl),fin rfl bB6⟩⟩
  | pair u v=>exact⟨T.o7.ek,.inl ⟨bO2 (B2 T.K0 4 rfl),fin rfl (eX6 v4 T.o7.gt T.o7.hd T.Z3 rfl rfl)⟩⟩
  | ok D=>exact hr.elim
end
set_option maxHeartbeats 1000000
theorem sc__law_due:B8 ["_law_drawing", "_law_told", "_law_many", "_law_land", "_law_p", "_law_q"] ["_law_drawing", "_law_told"] (A9 aS5):={}
section
theorem dY4 (K:Frag)(e:PE X l tl)(h:X.K=K:=by rfl):PI X tg l (eG4 K tl):=h▸aN4 e
end
theorem La.tk (e:La (k+3) dr x y z)(w:Dw (k+1) dr tr):TT.Tkn (k+3) (TT.trn dr) x y z:=⟨by lia,by
 have:=N5 (dr:=dr) (p:=k+3) (by rw[e.hl];lia)
 rw[e.at_]at this;exact(Ab4 this).symm⟩
theorem bT7 (e:dr.length=k+4):(V7 (k+3) dr).length=k+3:=by unfold V7;rw[Aa3,Ad1];lia
theorem bF6 (w:Dw (k+1) dr tr)(i:Nat):TT.trn (V7 (k+3) dr) i=TT.aI7 (TT.trn dr) (k+3) i:=by
 have j:=w.len
 unfold TT.aI7;by_cases s:i<k+3
 .rw[Ab (by lia)]
  show((V7 (k+3) dr)[i]?).getD []=_
  unfold V7;rw[Aa9,Dq,Ac s,N5 (by lia)];rfl
 .have r:TT.trn (V7 (k+3) dr) i=[]:=by unfold TT.trn;rw[Ad6 (by rw[bT7 (by lia)];lia)];rfl
  rw[r];by_cases e:i=k+3
  .rw[Ac e]
  .rw[Ab e,w.good.hi i (by lia)];rfl
theorem cJ2 (r:La (k+3) dr x y z)(e:Dw (k+1) dr tr):Dw k (V7 (k+3) dr) tr:=by
 have:=e.m7
 have w:=e.len
 refine⟨by lia,bT7 (by lia),?_⟩
 have G:=TT.Good.take (n:=k+3) e.good (r.tk e)
 rw[show TT.trn (V7 (k+3) dr)=TT.aI7 (TT.trn dr) (k+3) from funext λi=>bF6 e i]
 exact G
theorem dT3 (Y:La (k+3) dr x y z)(w:Dw (k+1) dr tr)(j:Bg (k+1) dr):Bg k (V7 (k+3) dr):=λi hi=>by
 have r:=(cJ2 Y w).good.two i hi
 rw[bF6 w]at r ⊢;have e:TT.aI7 (TT.trn dr) (k+3) i=TT.M4 (TT.trn dr i) (k+3):=Ab (by lia)
 rw[e]at r ⊢;refine TT.dA6 (w.good.nd i) (j i (by lia)) (λx s=>?_) (λz=>by rw[z]at r;simp at r)
 have:=w.good.lt i x s
 lia
theorem eK5 {m:Nat}{dr tr:AA}(l:AD):l∈loL m dr↔l∈inn m dr:=by
 unfold loL inn loF TT.rds;rw[(U7 _).mem_iff,Bf,(U7 _).mem_iff];simp only[Aa8,Bf,Ak,okG,Ap];constructor
 .rintro⟨k,⟨x,⟨h1,e,w⟩,rfl⟩,rfl⟩;exact⟨⟨_,⟨x,⟨h1,w⟩,rfl⟩,rfl⟩,λz=>e (cB9 (b:=[0,2,1]) z)⟩
 .rintro⟨⟨k,⟨x,⟨h1,w⟩,rfl⟩,rfl⟩,e⟩;exact⟨_,⟨x,⟨h1,λz=>e (congrArg cL z),w⟩,rfl⟩,rfl⟩
theorem eI7 {m:Nat}{dr:AA}(l:AD):((loL m dr).map tI).any (λz=>PyData.eqv z (tI l))=decide (l∈inn m dr):=by
 rw[Cm,Ak,List.any_eq_true,<- eK5 (tr:=[])];constructor
 .rintro⟨_,h,e⟩;obtain⟨k,w,rfl⟩:=Aa8.mp h;rw[aS6]at e;exact Aj e▸w
 .intro h;exact⟨_,Aa8.mpr ⟨l,h,rfl⟩,by rw[aS6];exact Bc rfl⟩
theorem dV2 (e:Dw m dr tr)(w:Lb m dr x y z):∃x' y' z':Nat,z5 [(x:Int),(y:Int),(z:Int)]=cL [x',y',z']/\Lb m dr x' y' z'/\aW2 m dr x' y' z'=aW2 m dr x y z:=by
 have r:=w.rot e
 have j:=r.rot e
 rcases eC4 (x:Int) (y:Int) (z:Int) with g | g | g
 .exact⟨x,y,z,g,w,rfl⟩
 .exact⟨y,z,x,g,r,bQ9 w e⟩
 .exact⟨z,x,y,g,j,by rw[bQ9 r e,bQ9 w e]⟩
def eS3 (ds:AF)(d:PyData):Prop:=∃(m:Nat) (dr tr:AA) (t:Td) (du:Du),Dw m dr tr/\Bg m dr/\Due m dr t du/\ds=[tD dr,tdD t]/\d=duD du
def fDu (p:Nat):PyData->Option PyData
 | .tuple l=>some (tN (TT.B5 ((l.map toN).filter λx=>decide (x≠p))))
 | _=>none
theorem dQ5 (p:Nat)(l:AC):fDu p (tN l)=some (tN (TT.B5 (l.filter λx=>decide (x≠p)))):=by
 show some (tN (TT.B5 (((nI l).map toN).filter λx=>decide (x≠p))))=_
 rw[cN0]
theorem dT7 (p:Nat)(L:AA):(L.map tN).filterMap (fDu p)=(L.map λl=>TT.B5 (l.filter λx=>decide (x≠p))).map tN:=by
 induction L with
 | nil=>rfl
 | cons l L e=>
  rw[Ac7,An,dQ5];show _::_=_::_;rw[e]
theorem dO4 (w:Dw m dr tr)(s:Bg m dr)(j:La (m+2) dr x y z):(dr.take (m+2)).map (λl=>TT.B5 (l.filter λx=>decide (x≠m+2)))=V7 (m+2) dr:=by
 obtain⟨k,rfl⟩:∃k,m=k+1:=⟨m-1,by have:=j.h3;lia⟩
 have h:=dT3 j w s
 have Y:=w.len
 refine List.ext_getElem? λi=>?_
 by_cases hi:i<k+3
 .have e:(V7 (k+3) dr)[i]? = some (TT.trn (V7 (k+3) dr) i):=N5 (by unfold V7;rw[Aa3,Ad1];lia)
  show _=(V7 (k+3) dr)[i]?
  rw[e,<- h i hi];have r:(V7 (k+3) dr)[i]? = some ((TT.trn dr i).filter λx=>decide (x≠k+3)):=by
   unfold V7;rw[Aa9,List.getElem?_take_of_lt hi,N5 (by lia)];rfl
  rw[e]at r;rw[Ab4 r,Aa9,List.getElem?_take_of_lt hi,N5 (by lia)];rfl
 .rw[Ad6 (by simp;lia),Ad6 (by unfold V7;simp;lia)]
section
variable {P:Program}{w:World}{K:Frag}{mg:Str->Option Value}{base:Heap}{a:Ad}
theorem eH7 (T:Tx K mg a):FnOk P w K mg base CX0 4 a.bP6 a.bQ3 ["_law_drawing", "_law_told"] (spV K eS3):=by
 have U := @dN8 P w K mg base a T
 have N := @dQ2 P w K mg base a T
 have B := @eT9 P w K mg base a T
 have M := @eP0 P w K mg base a T
 refine T.bO4.F.ok sc__law_due (Y7 (by rintro ds d ⟨_,_,_,_,_,_,_,_,e,_⟩;rw[e];rfl)) (λcdv A outer s H vs Q E hr h=>?_)
 obtain⟨ds,S,d,hS,r,⟨m,dr,tr,t,du,dw,bg,hd,rfl,rfl⟩,q⟩:=h;refine⟨_,(A3 (psS 2 sc__law_due (C0 (aD7 K) (by rfl) T.O9 Am (A0 (pv 0) A2)))
   (A3 (L6 (B9 (aM5 K hr) (B4 (ixK K) (pv 1) A4 (λ_ _=>rfl)) K2 (D8 _)) (A3 (psS 3 sc__law_due (pcl U hr T.R9 (A0 (K5 (bX8 K) (by rfl) T.v9 boot_list (A0 (P9 (cA0 K) (pv 1) (S0 A4) Z1) A2)) A2)))
   (A3 (L6 (B9 aC7 (pv 2) A4 (D8 _)) (A7 (B7 K2)) E1)
   (A3 (L6 (B9 (bF8 K hr) (pv 3) (pcl N hr T.aH5 (A0 (pv 0) A2)) rfl) (A7 (B7 K2)) E1)
   (A7 (B7 (pcl B hr T.bO5 (A0 (pv 0) (A0 (pv 3) A2)))))))) E1)
   (A3 (cE7 (i:=4) sc__law_due.nd rfl (Or.inr rfl) (B4 (ixK K) (pv 1) A4 (λ_ _=>rfl)))
   (A3 (L6 (B9 (aM5 K hr) (B4 (ixK K) (pv 1) A4 (λ_ _=>rfl)) K2 (D8 _)) (A3 (L6 (PW.pt (aV3 (B9 bH7 (pv 4) (B1 S2 (pv 2) A4) (D8 _)) (aV3 (B9 aR2 (pv 4) A4 (D8 _)) (bQ8 (B9 bH7 (C0 (aD7 K) (by rfl) T.O9 Am (A0 (B4 (ixK K) (pv 0) (pv 4) (λ_ _=>rfl)) A2)) A4 (D8 _)))))) (A7 (B7 K2)) E1)
   (A7 (B7 (K5 (cR3 K) (by rfl) T.S5 boot_tuple (A0 (U5 (T:=["_law_turn"]) (N':=["_law_turn", "_law_p"]) (is:=[4]) rfl (.of rfl rfl rfl (by exact⟨rfl,trivial⟩) rfl rfl rfl (by exact⟨⟨_,rfl,by first | exact .inl rfl | exact .inr rfl,by first | exact .inl rfl | exact .inr rfl⟩,trivial⟩)) (aN4 (P9 (cA0 K) (pv 0) Z1 (S0 (pv 4)))) (T3 (by decide)) λ_ _ _ _=>⟨(R5 (i:=0) (by decide +kernel:(["_law_turn", "_law_p"]:AH).Nodup) rfl (Or.inl rfl)),i3,(pcl U hr T.R9 (A0 (U5 (T:=["_law_other"]) (N':=["_law_other", "_law_p"]) (is:=[1]) rfl (.of rfl rfl rfl (by exact⟨rfl,trivial⟩) rfl rfl rfl (by exact⟨⟨_,rfl,by first | exact .inl rfl | exact .inr rfl,by first | exact .inl rfl | exact .inr rfl⟩,trivial⟩)) (dY4 K (pv 0)) (T3 (by decide)) λ_ _ _ _=>⟨(R5 (i:=0) (by decide +kernel:(["_law_other", "_law_p"]:AH).Nodup) rfl (Or.inl rfl)),(aY4 (B9 bH7 (pv 0) (pv 1) (D8 _))),(pv 0)⟩) A2))⟩) A2))))) E1)
   (A3 (psS 5 sc__law_due (B4 (ixK K) (pv 1) A4 (λ_ _=>rfl)))
   (A3 (L6 (PW.pt (aV3 (B9 aR2 (pv 4) A4 (D8 _)) (aV3 (B9 dN7 (pv 4) (pv 2) (D8 _)) (aV3 (B9 (bF8 K hr) (pv 5) (B4 (ixK K) (pv 0) (pv 4) (λ_ _=>rfl)) rfl) (bQ8 (PW.pt (bE8 (B9 aR2 (pv 4) A4 (D8 _)) (bC3 (B9 aR2 (pv 5) A4 (D8 _)))))))))) (A7 (B7 K2)) E1)
   (A7 (B7 (pcl M hr T.aM6 (A0 (pv 0) (A0 (pv 4) (A0 (pv 5) A2)))))))))))),M0 hS r ?_ q⟩
 have hdl:=dw.len
 have m7:=dw.m7
 have hln:((dr.map tN).length:Int)=((m+3:Nat):Int):=by rw[Aa3,hdl]
 refine A8 (E5 (d:=.int ((m+3:Nat):Int)) (by rw[<- hln];exact M9 (ds:=dr.map tN) (A1 v0 A5)) ?_)
 have f1:Fit (.str "put"):=(bQ0 (by decide +kernel)).fit
 have f2:Fit (.str "take"):=(bQ0 (by decide +kernel)).fit
 have f3:Fit (.str "flip"):=(bQ0 (by decide +kernel)).fit
 have J:∀{s1 s2:Str} {b:Bool} {es:AF} {x3 x4 x5:Sl},Fit (.str s1)->Fit (.str s2)->PyData.eqv (.str s1) (.str s2)=b->LV.T K (p6 (tOp (bR6 K false) (tOp (rIx K) (C7 1) (tC (.int 0))) (tC (.str s2)))) [vD dr,.val (.tuple (.str s1::es)),vI ((m+3:Nat):Int),x3,x4,x5] b:=λ{s1 s2 b es x3 x4 x5} g1 g2 e=>by
  have h:=cY0 (K:=K) (m:=false) (ρ:=[vD dr,.val (.tuple (.str s1::es)),vI ((m+3:Nat):Int),x3,x4,x5]) (C9 (ds:=.str s1::es) v1 (A6 (i:=0)) rfl (S1 0 rfl rfl)) (O1 (x:=s2)) g1 g2
  rw[e]at h;exact C1 h
 have cu:∀(x:PyData) (l:AF),aD0 (x::l) (some ((1:Nat):Int)) none=l:=λx l=>by rw[aO0 (by simp)];rfl
 have lands:∀{x y z:Int} {x1 x4 x5:Sl} {b:Bool},decide (z5 [x,y,z]∈inn m dr)=b->LV.T K (p6 (tOp (dB7 K true) (C7 3) (V3 (spL K cC3) [] E0 (E7 (C7 0) R6)))) [vD dr,x1,vI ((m+3:Nat):Int),.val (tI (z5 [x,y,z])),x4,x5] (!b):=λ{x y z x1 x4 x5 b} e=>by
  have h:=aX8 (K:=K) (m:=false) (ρ:=[vD dr,x1,vI ((m+3:Nat):Int),.val (tI (z5 [x,y,z])),x4,x5]) (d:=tI (z5 [x,y,z])) (d':=.list ((loL m dr).map tI)) v3 (EF.e' (s9 (pre:=cC3) (X:=E0) (A1 v0 A5) ⟨m,dr,tr,dw,rfl,rfl⟩)) rfl (V1 _).fit ((aK9 (n:=1) λd hd=>by obtain⟨l,_,rfl⟩:=Aa8.mp hd;exact V1 _).fit)
  rw[eI7,e]at h;exact C1 h
 have cond:∀{x:Nat} {Y:Int} {R:AE} {u:TS} (hx:x<m+3),(Y∈(TT.trn dr x).map (λ(z:Nat)=>(z:Int))/\(3<=(x:Int)\/3<=Y)->W K u [vD dr,.val (tdD (.flip x Y)),vI ((m+3:Nat):Int),.no,vI (x:Int),vI Y] R)->(¬(Y∈(TT.trn dr x).map (λ(z:Nat)=>(z:Int))/\(3<=(x:Int)\/3<=Y))->R.rt (.str "tie"))->W K (cC0 (bN3 (tOr (p6 (tOp (rI0 λi j=>.bl (decide (i<j))) (C7 4) (tC (.int 0)))) (tOr (p6 (tOp (rI0 λi j=>.bl (decide (i≥j))) (C7 4) (C7 2))) (tOr (p6 (tOp (dB7 K true) (C7 5) (tOp (rIx K) (C7 0) (C7 4)))) (eI1 (p6 (tOp (rI0 λi j=>.bl (decide (i<j))) (C7 4) (tC (.int 3)))) (p6 (tOp (rI0 λi j=>.bl (decide (i<j))) (C7 5) (tC (.int 3)))))))) (bZ1 (tC (.str "tie"))) bW9) u) [vD dr,.val (tdD (.flip x Y)),vI ((m+3:Nat):Int),.no,vI (x:Int),vI Y] R:=λ{x Y R u} hx hu hr=>by
  have h:=aX8 (K:=K) (m:=false) (ρ:=[vD dr,.val (tdD (.flip x Y)),vI ((m+3:Nat):Int),.no,vI (x:Int),vI Y]) (d:=.int Y) (ds:=nI (TT.trn dr x)) v5 (C9 (ds:=dr.map tN) v0 v4 rfl (dw.at_ hx)) rfl (bX9 _) (by rw[aI1];exact(V1 _).fit)
  rw[cP6]at h;refine A8 (K9 (aI5 (C1 (z4 (g:=λi j=>decide (i<j)) v4 (A6 (i:=0)))) λ_=>aI5 (C1 (z4 (g:=λi j=>decide (i≥j)) v4 v2)) λ_=>aI5 (C1 h) λ_=>aQ2 (C1 (z4 (g:=λi j=>decide (i<j)) v4 (A6 (i:=3)))) λ_=>C1 (z4 (g:=λi j=>decide (i<j)) v5 (A6 (i:=3)))) (λb=>E9 O1 (hr λz=>?_)) (λb=>E2 (hu ?_)))
  .simp only[Dn,Ap,Bool.not_eq_true',Ak,Bv]at b;obtain⟨z1,z2⟩:=z;rcases b with b | b | b | b
   .lia
   .lia
   .exact b z1
   .lia
  .simp only[Bool.or_eq_false_iff,Bool.and_eq_false_iff,Bool.not_eq_false',Ak,Bv]at b;obtain⟨_,_,b1,b2⟩:=b;exact⟨b1,by lia⟩
 cases hd with
 | @many x y z hm=>
  refine A8 (K9 (J (b:=true) f1 f1 (by decide +kernel)) (λ_=>?_) (λh=>by cases h))
  refine A8 (E5 (d:=tI (z5 [x,y,z])) (C3 (A1 (EF.e' (z6 (d:=.tuple [.int (x),.int (y),.int (z)]) (ds:=[.int (x),.int (y),.int (z)]) (A1 (by rw[<- cu (.str "put") [.int (x),.int (y),.int (z)]];exact aL7 (ds:=[.str "put",.int (x),.int (y),.int (z)]) v1 (U1 (A6 (i:=1))) j7 rfl) A5) rfl rfl)) A5) ⟨[x,y,z],by simp,by simp,rfl,rfl⟩) ?_)
  exact A8 (K9 (C1 (l7 v2 (A6 (i:=10)))) (λ_=>E9 O1 rfl) (λh=>absurd (Ar h) (by lia)))
 | @land x y z hm hi=>
  refine A8 (K9 (J (b:=true) f1 f1 (by decide +kernel)) (λ_=>?_) (λh=>by cases h))
  refine A8 (E5 (d:=tI (z5 [x,y,z])) (C3 (A1 (EF.e' (z6 (d:=.tuple [.int (x),.int (y),.int (z)]) (ds:=[.int (x),.int (y),.int (z)]) (A1 (by rw[<- cu (.str "put") [.int (x),.int (y),.int (z)]];exact aL7 (ds:=[.str "put",.int (x),.int (y),.int (z)]) v1 (U1 (A6 (i:=1))) j7 rfl) A5) rfl rfl)) A5) ⟨[x,y,z],by simp,by simp,rfl,rfl⟩) ?_)
  refine A8 (K9 (C1 (l7 v2 (A6 (i:=10)))) (λh=>absurd (Aj h) (by lia)) (λ_=>E2 ?_))
  exact A8 (K9 (b := !false) (lands (Aw hi)) (λ_=>E9 O1 rfl) (λh=>by cases h))
 | @put x y z hm lb=>
  refine A8 (K9 (J (b:=true) f1 f1 (by decide +kernel)) (λ_=>?_) (λh=>by cases h))
  refine A8 (E5 (d:=tI (z5 [(x:Int),(y:Int),(z:Int)])) (C3 (A1 (EF.e' (z6 (d:=.tuple [.int ((x:Int)),.int ((y:Int)),.int ((z:Int))]) (ds:=[.int ((x:Int)),.int ((y:Int)),.int ((z:Int))]) (A1 (by rw[<- cu (.str "put") [.int ((x:Int)),.int ((y:Int)),.int ((z:Int))]];exact aL7 (ds:=[.str "put",.int ((x:Int)),.int ((y:Int)),.int ((z:Int))]) v1 (U1 (A6 (i:=1))) j7 rfl) A5) rfl rfl)) A5) ⟨[(x:Int),(y:Int),(z:Int)],by simp,by simp,rfl,rfl⟩) ?_)
  refine A8 (K9 (C1 (l7 v2 (A6 (i:=10)))) (λh=>absurd (Aj h) (by lia)) (λ_=>E2 ?_))
  obtain⟨x',y',z',e,lb',ep⟩:=dV2 dw lb;have hin:z5 [(x:Int),(y:Int),(z:Int)]∈inn m dr:=by
   obtain⟨n1,n2,n3⟩:=dw.good.th_ne lb.h;rw[<- lb.hz]at n2 n3;refine(cY5 dw).mpr ⟨x,y,lb.h,?_,lb.hin⟩;rw[show [(x:Int),(y:Int),(z:Int)]=cL [x,y,z] from rfl,aP3,aP5 n1 n2 n3]
   unfold TT.lnd;rw[lb.hz]
  refine A8 (K9 (b := !true) (lands (Bc hin)) (λh=>by cases h) (λ_=>E2 ?_))
  exact E9 (C3 (A1 v0 (A1 v3 A5)) ⟨m,dr,tr,x',y',z',dw,bg,lb',by rw[e,p5],rfl⟩) (by rw[ep];rfl)
 | @place p hz=>
  refine A8 (K9 (J (b:=false) f2 f1 (by decide +kernel)) (λh=>by cases h) (λ_=>E2 ?_))
  refine A8 (E5 (d:=.int p) (C9 (ds:=[.str "take",.int p]) v1 (A6 (i:=1)) rfl rfl) ?_);refine A8 (K9 (J (b:=true) f2 f2 (by decide +kernel)) (λ_=>?_) (λh=>by cases h))
  show W K _ [vD dr,.val (tdD (.take p)),vI ((m+3:Nat):Int),.no,vI p,.no] _
  have n1:=C1 (aI3 (K:=K) (m:=false) (ρ:=[vD dr,.val (tdD (.take p)),vI ((m+3:Nat):Int),.no,vI p,.no]) v4 (N4 (g:=λi j=>i-j) v2 (A6 (i:=1))))
  by_cases h1:p=((m+2:Nat):Int)
  .have n3:=C1 (aI3 (K:=K) (m:=false) (ρ:=[vD dr,.val (tdD (.take p)),vI ((m+3:Nat):Int),.no,vI p,.no]) (M9 (ds:=nI (TT.trn dr (m+2))) (A1 (C9 (ds:=dr.map tN) v0 v4 rfl (by rw[h1];exact dw.at_ (by lia))) A5)) (A6 (i:=3)))
   refine A8 (K9 (aI5 n1 λ_=>aI5 (C1 (z4 (g:=λi j=>decide (i<j)) v4 (A6 (i:=3)))) λ_=>n3) (λ_=>E9 O1 rfl) (λh=>?_))
   simp only[Bool.or_eq_false_iff,Bool.not_eq_false',Ak,Bv]at h;exact absurd ⟨h1,by lia,by have:=h.2.2;rw[G5]at this;lia⟩ hz
  .rw[Aw (by lia)]at n1
   exact A8 (K9 (b := !false||true) (aI5 n1 λh=>by cases h) (λ_=>E9 O1 rfl) (λh=>by cases h))
 | @take x y z la=>
  refine A8 (K9 (J (b:=false) f2 f1 (by decide +kernel)) (λh=>by cases h) (λ_=>E2 ?_))
  refine A8 (E5 (d:=.int ((m+2:Nat):Int)) (C9 (ds:=[.str "take",.int ((m+2:Nat):Int)]) v1 (A6 (i:=1)) rfl rfl) ?_);refine A8 (K9 (J (b:=true) f2 f2 (by decide +kernel)) (λ_=>?_) (λh=>by cases h))
  show W K _ [vD dr,.val (tdD (.take ((m+2:Nat):Int))),vI ((m+3:Nat):Int),.no,vI ((m+2:Nat):Int),.no] _
  have h3:=la.h3
  refine A8 (K9 (aI5 (C1 (aI3 v4 (N4 (g:=λi j=>i-j) v2 (A6 (i:=1))))) λ_=>aI5 (C1 (z4 (g:=λi j=>decide (i<j)) v4 (A6 (i:=3)))) λ_=>C1 (aI3 (M9 (ds:=nI [x,y,z]) (A1 (C9 (ds:=dr.map tN) v0 v4 rfl (S1 (m+2) rfl (by rw[Aa9,la.at_];rfl))) A5)) (A6 (i:=3)))) (λh=>?_) (λ_=>E2 ?_))
  .simp only[Dn,Bool.not_eq_true',Ak,Bv,G5]at h;simp at h
   lia
  have hc:aD0 (dr.map tN) none (some ((m+2:Nat):Int))=(dr.take (m+2)).map tN:=by rw[aL2 (by rw[Aa3];lia),List.map_take]
  refine E9 (Y8 (ds:=((dr.take (m+2)).map λl=>TT.B5 (l.filter λx=>decide (x≠m+2))).map tN) (A1 (EF.e' (bU1 (U3 (m:=true) (fDu (m+2)) (bI8 (ds:=(dr.take (m+2)).map tN) (by rw[<- hc];exact aL7 (ds:=dr.map tN) v0 j7 (U1 v4) (U9 _))) (by rw[Aa3,Ad1];unfold sizeLine;lia) λd hd=>?_) (dT7 (m+2) _))) A5) (U9 _)) (by rw[dO4 dw bg la];rfl)
  obtain⟨l,hl1,rfl⟩:=Aa8.mp hd;rw[dQ5];have hle:=la.le l (Be hl1);have hne:l.filter (λx=>decide (x≠m+2))≠[]:=by
   obtain⟨k,rfl⟩:∃k,m=k+1:=⟨m-1,by lia⟩
   obtain⟨i,hi,e⟩:=List.mem_iff_getElem.mp hl1;rw[Ad1]at hi;have h2:=(cJ2 la dw).good.two i (by lia)
   rw[bF6 dw]at h2;have e1:dr[i]? = some l:=by rw[<- e,List.getElem_take,Aa2]
   rw[N5 (by lia)]at e1
   have e2:=Ab4 e1
   intro z;unfold TT.aI7 at h2;rw[<- e2]at z;have z2:TT.M4 (TT.trn dr i) (k+3)=[]:=z;rw[Ab (by lia),z2]at h2
   simp at h2
  refine⟨_,F8,aU4,?_⟩;have cm:=U3 (K:=K) (m:=true) (ρ:=[.val (tN l),vI ((m+2:Nat):Int)]) (n:=1) (is:=[1]) (g:=M8 0) (tt:=p6 (tOp rNe (C7 0) (C7 1))) (te:=C7 0) (fWo (m+2)) (bI8 (ds:=nI l) v0) (by rw[G5];unfold sizeLine;lia) (λd hd=>by
   obtain⟨z',_,rfl⟩:=bG7 hd;refine⟨_,F8,?_⟩;have tt:=C1 (K:=K) (ρ:=[vI (z':Int),vI ((m+2:Nat):Int)]) (aI3 v0 v1);show match (if decide ((z':Int)=((m+2:Nat):Int)) then none else some (PyData.int (z':Int))) with | none=>_ | some y=>_
   cases h:decide ((z':Int)=((m+2:Nat):Int)) with
   | true=>rw[h]at tt;exact tt
   | false=>rw[h]at tt;exact⟨tt,B0 (i:=0) rfl⟩)
  rw[cA7]at cm;exact C3 (A1 (EF.e' cm) A5) ⟨cL (l.filter λx=>decide (x≠m+2)),by unfold cL;simpa using hne,by unfold cL;rw[Aa3];exact Bd (List.length_filter_le _ _) (by lia),by unfold nI cL lI;simp,by rw[aP3,p5]⟩
 | @tie p Y hn=>
  refine A8 (K9 (J (b:=false) f3 f1 (by decide +kernel)) (λh=>by cases h) (λ_=>E2 ?_))
  refine A8 (E5 (d:=.int (p)) (C9 (ds:=[.str "flip",.int (p),.int (Y)]) v1 (A6 (i:=1)) rfl rfl) ?_);refine A8 (K9 (J (b:=false) f3 f2 (by decide +kernel)) (λh=>by cases h) (λ_=>E2 ?_))
  refine A8 (E5 (d:=.int (Y)) (C9 (ds:=[.str "flip",.int (p),.int (Y)]) v1 (A6 (i:=2)) rfl rfl) ?_);show W K _ [vD dr,.val (tdD (.flip (p) (Y))),vI ((m+3:Nat):Int),.no,vI (p),vI (Y)] _;have l0:=C1 (z4 (K:=K) (m:=false) (ρ:=[vD dr,.val (tdD (.flip p Y)),vI ((m+3:Nat):Int),.no,vI p,vI Y]) (g:=λi j=>decide (i<j)) v4 (A6 (i:=0)))
  have l1:=C1 (z4 (K:=K) (m:=false) (ρ:=[vD dr,.val (tdD (.flip p Y)),vI ((m+3:Nat):Int),.no,vI p,vI Y]) (g:=λi j=>decide (i≥j)) v4 v2)
  by_cases c0:p<0
  .rw[Bc c0]at l0;exact A8 (K9 (b:=true||true) (aI5 l0 λh=>by cases h) (λ_=>E9 O1 rfl) (λh=>by cases h))
  by_cases c1:p≥((m+3:Nat):Int)
  .rw[Bc c1]at l1;exact A8 (K9 (aI5 l0 λ_=>aI5 (b:=true) l1 λh=>by cases h) (λ_=>E9 O1 rfl) (λh=>by simp at h))
  obtain⟨x,rfl⟩:∃x:Nat,p=(x:Int):=⟨p.toNat,by lia⟩
  have hx:x<m+3:=by lia
  refine cond hx (λh=>?_) (λ_=>rfl)
  exact absurd hn (by
   have:it dr ((x:Int),Y)=true:=by
    unfold it td;simp only[Ap,Ak,Ac8];obtain⟨h1,h2⟩:=h;exact⟨⟨⟨by lia,by lia⟩,h1⟩,by lia⟩
   rw[this];simp)
 | @pair p Y u v F hv=>
  refine A8 (K9 (J (b:=false) f3 f1 (by decide +kernel)) (λh=>by cases h) (λ_=>E2 ?_))
  refine A8 (E5 (d:=.int ((p:Int))) (C9 (ds:=[.str "flip",.int ((p:Int)),.int ((Y:Int))]) v1 (A6 (i:=1)) rfl rfl) ?_);refine A8 (K9 (J (b:=false) f3 f2 (by decide +kernel)) (λh=>by cases h) (λ_=>E2 ?_))
  refine A8 (E5 (d:=.int ((Y:Int))) (C9 (ds:=[.str "flip",.int ((p:Int)),.int ((Y:Int))]) v1 (A6 (i:=2)) rfl rfl) ?_);show W K _ [vD dr,.val (tdD (.flip ((p:Int)) ((Y:Int)))),vI ((m+3:Nat):Int),.no,vI ((p:Int)),vI ((Y:Int))] _;refine cond (dw.lt F.h) (λ_=>?_) (λh=>absurd ⟨Aa8.mpr ⟨Y,F.h,rfl⟩,by have:=F.hi;lia⟩ h)
  refine E9 (C3 (A1 v0 (A1 v4 (A1 v5 A5))) ⟨m,dr,tr,p,Y,dw,bg,F.h,F.hi,rfl,rfl⟩) ?_;unfold dU0;rw[<- F.ha,<- F.hb,Ac hv];rfl
 | @flip p Y u v F=>
  refine A8 (K9 (J (b:=false) f3 f1 (by decide +kernel)) (λh=>by cases h) (λ_=>E2 ?_))
  refine A8 (E5 (d:=.int ((p:Int))) (C9 (ds:=[.str "flip",.int ((p:Int)),.int ((Y:Int))]) v1 (A6 (i:=1)) rfl rfl) ?_);refine A8 (K9 (J (b:=false) f3 f2 (by decide +kernel)) (λh=>by cases h) (λ_=>E2 ?_))
  refine A8 (E5 (d:=.int ((Y:Int))) (C9 (ds:=[.str "flip",.int ((p:Int)),.int ((Y:Int))]) v1 (A6 (i:=2)) rfl rfl) ?_);show W K _ [vD dr,.val (tdD (.flip ((p:Int)) ((Y:Int)))),vI ((m+3:Nat):Int),.no,vI ((p:Int)),vI ((Y:Int))] _;refine cond (dw.lt F.h) (λ_=>?_) (λh=>absurd ⟨Aa8.mpr ⟨Y,F.h,rfl⟩,by have:=F.hi;lia⟩ h)
  refine E9 (C3 (A1 v0 (A1 v4 (A1 v5 A5))) ⟨m,dr,tr,p,Y,dw,bg,F.h,F.hi,rfl,rfl⟩) ?_;unfold dU0;rw[<- F.ha,<- F.hb,Ab F.hn];rfl
end
set_option maxHeartbeats 1000000
theorem sc__law_right:B8 ["_law_drawing", "_law_told", "_law_due_here", "_law_words", "_law_refused", "_law_deed", "_law_found"] ["_law_drawing", "_law_told"] (A9 aE3):={}
theorem aX5 (e:Du):Fit (.list (aB8 e)):=by
 have s:FitN 2 (.str "refused"):=⟨by decide +kernel,by simp[PyData.depth]⟩
 have j:FitN 2 (prD e):=by
  cases e with
  | pair u v=>exact⟨(V1 [(u:Int),(v:Int)]).1,Bd (V1 [(u:Int),(v:Int)]).2 (by decide)⟩
  | _=>exact⟨rfl,by simp[prD,PyData.depth]⟩
 have r:FitN 2 (.list (bls e)):=aK9 (n:=1) λd w=>by
  have:∃b,d=.bool b:=by
   cases e <;> simp only[bls,Aa1,Ac2,or_false]at w <;> rcases w with h | h | h | h | h | h <;> exact⟨_,h⟩
  obtain⟨b,rfl⟩:=this;exact⟨rfl,by simp[PyData.depth]⟩
 refine(aK9 (n:=2) λd w=>?_).fit
 simp only[aB8,Aa1,Ac2,or_false]at w;rcases w with rfl | rfl | rfl
 .exact s
 .exact r
 .exact j
theorem dV4 (w:Dw m dr tr)(h:Due m dr t (.ok D)):3<=D.length/\D.length<=1000:=by
 have r:=w.m7
 cases h with
 | put _ _=>rw[dJ5];lia
 | take e=>have:=e.h3;have:=e.hl;unfold V7;rw[Aa3,Ad1];lia
 | flip _=>rw[dD3];lia
def eR0 (ds:AF)(d:PyData):Prop:=∃(m:Nat) (dr tr:AA) (t:Td),Dw m dr tr/\Bg m dr/\ds=[tD dr,tdD t]/\d=.bool true
def W4:AF:=[.str "many",.str "land",.str "place",.str "tie"]
def fW (s:PyData)(d:PyData):Option PyData:=some (.bool (PyData.eqv s d))
theorem eN1 (h:aQ6 du)(hp:∀u v,du≠.pair u v):W4.filterMap (fW (duD du))++[.bool false,.bool false]=bls du:=by
 have e:PyData.eqv (.str "many") (.str "many")=true:=by decide +kernel
 have w:PyData.eqv (.str "many") (.str "land")=false:=by decide +kernel
 have r:PyData.eqv (.str "many") (.str "place")=false:=by decide +kernel
 have j:PyData.eqv (.str "many") (.str "tie")=false:=by decide +kernel
 have s:PyData.eqv (.str "land") (.str "many")=false:=by decide +kernel
 have Y:PyData.eqv (.str "land") (.str "land")=true:=by decide +kernel
 have X:PyData.eqv (.str "land") (.str "place")=false:=by decide +kernel
 have U:PyData.eqv (.str "land") (.str "tie")=false:=by decide +kernel
 have J:PyData.eqv (.str "place") (.str "many")=false:=by decide +kernel
 have M:PyData.eqv (.str "place") (.str "land")=false:=by decide +kernel
 have N:PyData.eqv (.str "place") (.str "place")=true:=by decide +kernel
 have R:PyData.eqv (.str "place") (.str "tie")=false:=by decide +kernel
 have Q:PyData.eqv (.str "tie") (.str "many")=false:=by decide +kernel
 have F:PyData.eqv (.str "tie") (.str "land")=false:=by decide +kernel
 have B:PyData.eqv (.str "tie") (.str "place")=false:=by decide +kernel
 have P:PyData.eqv (.str "tie") (.str "tie")=true:=by decide +kernel
 cases du with
 | many=>simp only[W4,fW,duD,An,List.filterMap_nil,e,w,r,j];rfl
 | land=>simp only[W4,fW,duD,An,List.filterMap_nil,s,Y,X,U];rfl
 | place=>simp only[W4,fW,duD,An,List.filterMap_nil,J,M,N,R];rfl
 | tie=>simp only[W4,fW,duD,An,List.filterMap_nil,Q,F,B,P];rfl
 | pair u v=>exact absurd rfl (hp u v)
 | ok D=>exact h.elim
section
variable {P:Program}{w:World}{K:Frag}{mg:Str->Option Value}{base:Heap}{a:Ad}
theorem eS5 (T:Tx K mg a):FnOk P w K mg base CX0 9 a.bC7 a.aU5 ["_law_drawing", "_law_told"] (spV K eR0):=by
 have J := @eH7 P w K mg base a T
 have U := @dT8 P w K mg base a T
 have N := @eP4 P w K mg base a T
 have X := @eN9 P w K mg base a T
 have Y := @eR4 P w K mg base a T
 refine T.aE8.F.ok sc__law_right (Y7 (by rintro ds d ⟨_,_,_,_,_,_,e,_⟩;rw[e];rfl)) (λcdv A outer s H vs Q E hr h=>?_)
 obtain⟨ds,S,d,hS,r,⟨m,dr,tr,t,dw,bg,rfl,rfl⟩,q⟩:=h;refine⟨_,(A3 (cE7 (i:=2) sc__law_right.nd rfl (Or.inr rfl) (pcl J hr T.bO4 (A0 (pv 0) (A0 (pv 1) A2))))
   (A3 (psS 3 sc__law_right (D6 (A0 K2 (A0 K2 (A0 K2 (A0 K2 A2))))))
   (A3 (psS 4 sc__law_right bE7)
   (A3 (L6 (y7 (C0 (dM3 K) (by rfl) T.G9 boot_isinstance (A0 (pv 2) (A0 (bW8 rfl T.dG1 boot_str) A2)))) (A7 (psS 4 sc__law_right (D6 (A0 K2 (A0 (B1 (O5 K) (U5 (T:=["_law_word"]) (N':=["_law_word", "_law_due_here"]) (is:=[2]) rfl (.of rfl rfl rfl (by exact⟨rfl,trivial⟩) rfl rfl rfl (by exact⟨⟨_,rfl,by first | exact .inl rfl | exact .inr rfl,by first | exact .inl rfl | exact .inr rfl⟩,trivial⟩)) (aA4 (pv 3)) (T3 (by decide)) λ_ _ _ _=>⟨(R5 (i:=0) (by decide +kernel:(["_law_word", "_law_due_here"]:AH).Nodup) rfl (Or.inl rfl)),i3,(bK4 (aM5 K hr) (pv 1) (pv 0) (D8 _))⟩) (D6 (A0 X4 (A0 X4 A2)))) (A0 bE7 A2)))))) (A7 (L6 (B9 aC7 (C0 (aD7 K) (by rfl) T.O9 Am (A0 (pv 2) A2)) A4 (D8 _)) (A7 (psS 4 sc__law_right (D6 (A0 K2 (A0 (D6 (A0 X4 (A0 X4 (A0 X4 (A0 X4 (A0 X4 (A0 X4 A2))))))) (A0 (pv 2) A2)))))) E1)))
   (A3 (S4 Ao rfl (aA4 (D6 (A0 (pcl U hr T.bH6 (A0 (pv 1) A2)) (A0 (pcl N hr T.bT1 (A0 (pv 1) A2)) A2)))) (pgN 5 sc__law_right) (A3 (psS 6 sc__law_right (pcl X hr T.aS1 (A0 (pv 5) (A0 (pv 0) (A0 X4 A2)))))
   (A3 (L6 (PW.pt (bE8 (B9 eH4 (pv 4) bE7 (D8 _)) (bC3 (aT6 (y7 (pcl Y hr T.k9 (A0 (pv 6) (A0 (pv 2) A2)))))))) (A7 (B7 X4)) E1)
   (A7 (L6 (PW.pt (bE8 (B9 dY7 (pv 4) bE7 (D8 _)) (bC3 (PW.pt (aV3 (B9 (bN0 K hr) (pv 6) (pv 4) (D8 _)) (bQ8 (B9 (bN0 K hr) (pcl X hr T.aS1 (A0 (pv 5) (A0 (pv 0) (A0 X4 A2)))) (pv 4) (D8 _)))))))) (A7 (B7 X4)) E1)))))
   (A7 (B7 X4))))))),M0 hS r ?_ q⟩
 obtain⟨j,hd⟩:=eK8 dw t;have hdl:=dw.len;have m7:=dw.m7;refine A8 (E5 (d:=duD j) (C3 (A1 v0 (A1 v1 A5)) ⟨m,dr,tr,t,j,dw,bg,hd,rfl,rfl⟩) ?_);refine A8 (N2 (ds:=W4) (G3 (A1 O1 (A1 O1 (A1 O1 (A1 O1 A5))))) ?_ (show 3<7 by decide))
 refine bG8 (i:=3) rfl ?_;refine A8 (E5 (d:=.none) bB6 ?_);show W K _ [vD dr,.val (tdD t),.val (duD j),.val (.list W4),.val .none,.no,.no] _;have mt:∀{mm:Bool} {x4 B:Sl} {b:Bool},(b=true->aQ6 j)->LV.E K mm (V3 (spV K (dN6 a)) [] E0 (E7 (C7 5) (E7 (C7 0) (E7 (tC (.bl b)) R6)))) [vD dr,.val (tdD t),.val (duD j),.val (.list W4),x4,.val (deD a.D9 a.C8 a.C5 t),B] (eK2 j):=λ{mm x4 B b} hb=>C3 (A1 v5 (A1 v0 (A1 aT7 A5))) ⟨m,dr,tr,t,j,b,dw,hd,hb,rfl,rfl⟩
 have lp:∀{x4:Sl},I K true (dP2 K (dK1 (E7 (V3 (spV K (cW8 a)) [] E0 (E7 (C7 1) R6)) (E7 (V3 (spV K (cW8 a)) [] E0 (E7 (C7 1) R6)) R6)))) [vD dr,.val (tdD t),.val (duD j),.val (.list W4),x4,.no,.no] [deD a.D9 a.C8 a.C5 t,deD a.D9 a.C8 a.C5 t]:=λ{x4}=>aN3 (EF.e' (G3 (A1 (C3 (A1 v1 A5) ⟨t,rfl,rfl⟩) (A1 (C3 (A1 v1 A5) ⟨t,rfl,rfl⟩) A5))))
 have fs4:∀d∈W4,Fit d:=λd hd=>by
  simp only[W4,Aa1,Ac2,or_false]at hd;rcases hd with rfl | rfl | rfl | rfl <;> exact(bQ0 (by decide +kernel)).fit
 by_cases M:aQ6 j
 .refine A8 (eU2 (λρ => ρ=[vD dr,.val (tdD t),.val (duD j),.val (.list W4),.own (aB8 j),.no,.no]) (t_b (bT5 (T := "str") (d:=duD j) v2 (by decide) (by cases j <;> rfl))) (λh=>?_) (λh=>?_) ?_)
  .have hp:∀u v,j≠.pair u v:=λu v e=>by subst e;cases h
   have fd:Fit (duD j):=by
    cases j with
    | pair u v=>exact absurd rfl (hp u v)
    | ok D=>exact M.elim
    | many=>exact fs4 _ (by simp[W4,duD])
    | land=>exact fs4 _ (by simp[W4,duD])
    | place=>exact fs4 _ (by simp[W4,duD])
    | tie=>exact fs4 _ (by simp[W4,duD])
   have cm:=U3 (K:=K) (m:=true) (ρ:=[vD dr,.val (tdD t),.val (duD j),.val (.list W4),.val .none,.no,.no]) (n:=1) (is:=[2]) (g:=M8 0) (tt:=cF6) (te:=tOp (bR6 K false) (C7 1) (C7 0)) (fW (duD j)) (aN3 (ds:=W4) v3) (show 4<sizeLine by decide) (λd hd=>⟨_,F8,aU4,cY0 v1 v0 fd (fs4 d hd)⟩)
   exact N2 (ds:=aB8 j) (G3 (A1 O1 (A1 (EF.e' (bU1 (aN7 (EF.e' cm) (EF.e' (G3 (ds:=[.bool false,.bool false]) (A1 aT7 (A1 aT7 A5)))) (by unfold W4 fW;rfl) rfl (by show 4+2<=sizeLine;decide)) (eN1 M hp))) (A1 (d:=prD j) (by cases j <;> first | exact bB6 | exact absurd rfl (hp _ _) | exact M.elim) A5))) (show 3<=sizeLine by decide)) rfl (show 4<7 by decide)
  .cases j with
   | pair u v=>
    exact K9 (b:=true) (C1 (l7 (M9 (ds:=nI [u,v]) (A1 v2 A5)) (A6 (i:=2)))) (λ_=>N2 (ds:=aB8 (.pair u v)) (G3 (A1 O1 (A1 (EF.e' (G3 (A1 aT7 (A1 aT7 (A1 aT7 (A1 aT7 (A1 aT7 (A1 aT7 A5)))))) (show 6<=sizeLine by decide))) (A1 v2 A5))) (show 3<=sizeLine by decide)) rfl (show 4<7 by decide)) (λh=>by cases h)
   | ok D=>exact M.elim
   | many=>cases h
   | land=>cases h
   | place=>cases h
   | tie=>cases h
  rintro _ rfl;refine bG8 (i:=4) rfl ?_;have er:PyData.eqv (.list (aB8 j)) (.list (aB8 j))=true:=PySem.SeqAt.eqv_refl _ (aX5 j).1;refine A8 (Y5 (lp (x4:=.val (.list (aB8 j)))) (λk ρ=>∃x5 B,ρ=[vD dr,.val (tdD t),.val (duD j),.val (.list W4),.val (.list (aB8 j)),x5,B]) ⟨.no,.no,rfl⟩ ?_ ?_)
  .rintro k d _ R ⟨x5,B,rfl⟩;have R:d=deD a.D9 a.C8 a.C5 t:=by simpa using Bb R
   subst R;refine⟨_,F8,?_⟩;show W K _ [vD dr,.val (tdD t),.val (duD j),.val (.list W4),.val (.list (aB8 j)),.val (deD a.D9 a.C8 a.C5 t),B] _;refine A8 (E5 (d:=.list (aB8 j)) (by rw[<- cF0 M];exact mt (b:=false) (λh=>by cases h)) ?_)
   have n1:=cK0 (K:=K) (m:=false) (ρ:=[vD dr,.val (tdD t),.val (duD j),.val (.list W4),.val (.list (aB8 j)),.val (deD a.D9 a.C8 a.C5 t),.val (.list (aB8 j))]) v6 v4 (aX5 j) (aX5 j)
   have n2:=cK0 (K:=K) (m:=false) (ρ:=[vD dr,.val (tdD t),.val (duD j),.val (.list W4),.val (.list (aB8 j)),.val (deD a.D9 a.C8 a.C5 t),.val (.list (aB8 j))]) (by rw[<- cF0 M];exact mt (b:=true) (λ_=>M)) v4 (aX5 j) (aX5 j)
   rw[er]at n1 n2;refine A8 (K9 (b:=false&&true) (aQ2 (C1 (eE1 (d:=.list (aB8 j)) v4)) λh=>by cases h) (λh=>by cases h) (λ_=>E2 ?_))
   exact K9 (b:=true&&(!true || !true)) (aQ2 (C1 (dI8 (d:=.list (aB8 j)) v4)) λ_=>aI5 (C1 n1) λ_=>C1 n2) (λh=>by cases h) (λ_=>E2 ⟨_,_,rfl⟩)
  .rintro _ ⟨x5,B,rfl⟩;exact E9 aT7 rfl
 .obtain⟨D,rfl⟩:∃D,j=.ok D:=by
   cases j with
   | ok D=>exact⟨D,rfl⟩
   | _=>exact absurd trivial M
  obtain⟨l3,l4⟩:=dV4 dw hd;refine A8 (K9 (b:=false) (t_b (bT5 (T := "str") (d:=.tuple (D.map tN)) v2)) (λh=>by cases h) (λ_=>?_))
  refine K9 (C1 (l7 (M9 (ds:=D.map tN) (A1 v2 A5)) (A6 (i:=2)))) (λh=>absurd (Aj h) (by rw[Aa3];lia)) (λ_=>E2 ?_)
  refine A8 (Y5 (lp (x4:=.val .none)) (λk ρ=>∃x5 B,ρ=[vD dr,.val (tdD t),.val (duD (.ok D)),.val (.list W4),.val .none,x5,B]) ⟨.no,.no,rfl⟩ ?_ ?_)
  .rintro k d _ R ⟨x5,B,rfl⟩;have R:d=deD a.D9 a.C8 a.C5 t:=by simpa using Bb R
   subst R;refine⟨_,F8,?_⟩;show W K _ [vD dr,.val (tdD t),.val (duD (.ok D)),.val (.list W4),.val .none,.val (deD a.D9 a.C8 a.C5 t),B] _;refine A8 (E5 (d:=.tuple (D.map tN)) (mt (b:=false) (λh=>by cases h)) ?_)
   refine A8 (K9 (b:=true && !true) (aQ2 (C1 (eE1 (d:=.none) v4)) λ_=>bI2 (t_b (C3 (A1 v6 (A1 v2 A5)) ⟨D,l4,rfl,rfl⟩))) (λh=>by cases h) (λ_=>E2 ?_))
   exact K9 (b:=false&&true) (aQ2 (C1 (dI8 (d:=.none) v4)) λh=>by cases h) (λh=>by cases h) (λ_=>E2 ⟨_,_,rfl⟩)
  .rintro _ ⟨x5,B,rfl⟩;exact E9 aT7 rfl
end
set_option maxHeartbeats 1000000
theorem cI1:B8 ["_law_cell"] ["_law_cell"] (A9 aT5):={}
theorem J9:B8 ["_law_drawing", "_law_cell", "_law_rest", "_law_a", "_law_b", "_law_c", "_law_mix", "_law_far_here", "_law_inner", "_law_p"] ["_law_drawing", "_law_cell"] (A9 aG3):={}
def bD8 (c:Int):Int:=if c % 5=0 then c / 5 % (10^(60:Int).toNat) else if c % 5=1 then -1-c / 5 % (10^(59:Int).toNat) else c / 5 % 12-1
def cO0 (ds:AF)(d:PyData):Prop:=∃c:Int,ds=[.int c]/\d=.int (bD8 c)
def eV6 (ds:AF)(post:PyData->Prop):Prop:=∃(m:Nat) (dr tr:AA) (c:Int),Dw m dr tr/\ds=[tD dr,.int c]/\post=λd=>∃t,d=tdD t
theorem dG7 (h:S.length≠0)(N:Int):∃d∈S,atI S (N % (S.length:Int))=some d:=by
 have h1:0<=N % (S.length:Int):=Bq _ (by lia)
 have r:N % (S.length:Int)<(S.length:Int):=Cd _ (by lia)
 obtain⟨k,w⟩:∃k:Nat,N % (S.length:Int)=(k:Int):=⟨_,(Int.toNat_of_nonneg h1).symm⟩;have e:k<S.length:=by lia
 exact⟨S[k],Dl e,by rw[w];exact S1 k rfl (Aa2 e)⟩
theorem dL7 {l:AD}(h:l.length≠0)(N:Int):∃i:Int,atI (l.map PyData.int) (N % (l.length:Int))=some (.int i):=by
 obtain⟨d,w,e⟩:=dG7 (S:=l.map PyData.int) (by simpa using h) N
 obtain⟨i,_,rfl⟩:=Aa8.mp w;rw[Aa3]at e;exact⟨i,e⟩
section
variable {P:Program}{w:World}{K:Frag}{mg:Str->Option Value}{base:Heap}{a:Ad}
theorem eF7 (T:Tx K mg a):FnOk P w K mg base CX0 1 a.bN6 a.bM8 ["_law_cell"] (spV K cO0):=by
 refine T.X0.F.ok cI1 (Y7 (by rintro ds d ⟨_,e,_⟩;rw[e];rfl)) (λX A Y s H vs Q E J h=>?_)
 obtain⟨ds,S,d,U,r,⟨c,rfl,rfl⟩,q⟩:=h;refine⟨_,(A3 (L6 (B9 aC7 (B1 J0 (pv 0) A4) A4 (D8 _)) (A7 (B7 (B1 J0 (B1 K4 (pv 0) A4) (B1 dE8 A4 A4)))) E1)
   (A3 (L6 (B9 aC7 (B1 J0 (pv 0) A4) A4 (D8 _)) (A7 (B7 (B1 S2 (bI6 aI8 A4) (B1 J0 (B1 K4 (pv 0) A4) (B1 dE8 A4 A4))))) E1)
   (A7 (B7 (B1 S2 (B1 J0 (B1 K4 (pv 0) A4) A4) A4))))),M0 U r ?_ q⟩
 unfold bD8;refine A8 (K9 (C1 (l7 (e_i v0 (A6 (i:=5)) (by decide)) (A6 (i:=0)))) (λh=>?_) (λh=>E2 ?_))
 .rw[Ac (Aj h)];exact E9 (e_i (e_i v0 (A6 (i:=5)) ⟨by decide,by decide⟩) (e_i (A6 (i:=10)) (A6 (i:=60)) ⟨by decide,by decide,by decide⟩) (by decide)) rfl
 rw[Ab (Ar h)];refine A8 (K9 (C1 (l7 (e_i v0 (A6 (i:=5)) (by decide)) (A6 (i:=1)))) (λh=>?_) (λh=>E2 ?_))
 .rw[Ac (Aj h)];exact E9 (N4 (g:=λi j=>i-j) (bH4 (A6 (i:=1))) (e_i (e_i v0 (A6 (i:=5)) ⟨by decide,by decide⟩) (e_i (A6 (i:=10)) (A6 (i:=59)) ⟨by decide,by decide,by decide⟩) (by decide))) rfl
 .rw[Ab (Ar h)];exact E9 (N4 (g:=λi j=>i-j) (e_i (e_i v0 (A6 (i:=5)) ⟨by decide,by decide⟩) (A6 (i:=12)) (by decide)) (A6 (i:=1))) rfl
theorem eW1 (T:Tx K mg a):FnOk P w K mg base CX0 3 a.bC6 a.aV1 ["_law_drawing", "_law_cell"] (spX K eV6):=by
 have J := @bC5 P w K mg base a T
 have Y := @eF7 P w K mg base a T
 have U := @dQ2 P w K mg base a T
 refine T.aH4.F.ok J9 (eX8 (by rintro ds d ⟨_,_,_,_,_,e,_⟩;rw[e];rfl)) (λcdv A outer s H vs Q E R h=>?_)
 obtain⟨ds,S,post,hS,r,⟨m,dr,tr,c,dw,rfl,rfl⟩,q⟩:=h;refine⟨_,(A3 (L6 (B9 aC7 (B1 J0 (pv 1) A4) A4 (D8 _)) (A3 (psS 2 J9 (B1 K4 (pv 1) A4))
   (A3 (psS 3 J9 (B1 S2 (B1 J0 (pv 2) A4) A4))
   (A3 (psS 4 J9 (B1 S2 (B1 J0 (B1 K4 (pv 2) A4) A4) A4))
   (A3 (psS 5 J9 (B1 S2 (B1 J0 (B1 K4 (pv 2) A4) A4) A4))
   (A7 (B7 (B4 (ixK K) (D6 (A0 (H9 (A0 K2 (A0 (pv 3) (A0 (pv 4) (A0 (pv 5) A2))))) (A0 (H9 (A0 K2 (A0 (pv 3) A2))) (A0 (H9 (A0 K2 (A0 (pv 3) (A0 (pv 4) A2)))) A2)))) (B1 J0 (B1 K4 (pv 2) A4) A4) (λ_ _=>rfl)))))))) E1)
   (A3 (psS 6 J9 (pcl J R T.i4 (A0 (pv 1) (A0 A4 A2))))
   (A3 (psS 7 J9 (B1 K4 (pv 1) A4))
   (A3 (psS 8 J9 (pcl U R T.aH5 (A0 (pv 0) A2)))
   (A3 (aB2 (B4 (ixK K) (pv 8) (B1 J0 (B1 K4 (pv 6) A4) (C0 (aD7 K) (by rfl) T.O9 Am (A0 (pv 8) A2))) (λ_ _=>rfl)) (cD4 (n:=3) rfl (a9 (pgN 3 J9) (a9 (pgN 4 J9) (a9 (pgN 5 J9) bJ8)))))
   (A3 (psS 9 J9 (B1 J0 (B1 K4 (pv 6) A4) (C0 (aD7 K) (by rfl) T.O9 Am (A0 (pv 0) A2))))
   (A3 (L6 (B9 aR2 (B1 J0 (pv 6) A4) A4 (D8 _)) (A7 (B7 (H9 (A0 K2 (A0 (B4 (ixK K) (D6 (A0 (pv 3) (A0 (pv 5) (A0 A4 (A0 (pv 4) A2))))) (B1 J0 (B1 K4 (pv 6) A4) A4) (λ_ _=>rfl)) (A0 (pv 4) (A0 (B4 (ixK K) (D6 (A0 (pv 5) (A0 (pv 3) (A0 (pv 5) (A0 (pv 5) A2))))) (B1 J0 (B1 K4 (pv 6) A4) A4) (λ_ _=>rfl)) A2))))))) E1)
   (A3 (L6 (B9 aC7 (B1 J0 (pv 6) A4) A4 (D8 _)) (A7 (B7 (H9 (A0 K2 (A0 (pcl Y R T.X0 (A0 (pv 7) A2)) (A0 (pcl Y R T.X0 (A0 (B1 K4 (pv 7) A4) A2)) (A0 (B4 (ixK K) (D6 (A0 (pcl Y R T.X0 (A0 (B1 K4 (pv 7) A4) A2)) (A0 (pv 5) A2))) (B1 J0 (B1 K4 (pv 6) A4) A4) (λ_ _=>rfl)) A2))))))) E1)
   (A3 (L6 (B9 aC7 (B1 J0 (pv 6) A4) A4 (D8 _)) (A7 (B7 (B4 (ixK K) (D6 (A0 (H9 (A0 K2 (A0 A4 (A0 A4 (A0 A4 A2))))) (A0 (H9 (A0 K2 (A0 A4 (A0 A4 (A0 A4 A2))))) (A0 (H9 (A0 K2 (A0 A4 (A0 A4 (A0 A4 A2))))) (A0 (H9 (A0 K2 (A0 (pv 3) (A0 (pv 3) (A0 (pv 4) A2))))) A2))))) (B1 J0 (B1 K4 (pv 6) A4) A4) (λ_ _=>rfl)))) E1)
   (A3 (L6 (B9 aC7 (B1 J0 (pv 6) A4) A4 (D8 _)) (A7 (B7 (H9 (A0 K2 (A0 (B4 (ixK K) (D6 (A0 (B1 S2 (C0 (aD7 K) (by rfl) T.O9 Am (A0 (pv 0) A2)) A4) (A0 (pv 9) (A0 (C0 (aD7 K) (by rfl) T.O9 Am (A0 (pv 0) A2)) (A0 (pcl Y R T.X0 (A0 (pv 7) A2)) A2))))) (B1 J0 (B1 K4 (pv 6) A4) A4) (λ_ _=>rfl)) A2))))) E1)
   (A3 (L6 (B9 aC7 (B1 J0 (pv 6) A4) A4 (D8 _)) (A7 (B7 (H9 (A0 K2 (A0 (B4 (ixK K) (D6 (A0 (pv 9) (A0 (pcl Y R T.X0 (A0 (pv 7) A2)) A2))) (B1 J0 (B1 K4 (pv 6) A4) A4) (λ_ _=>rfl)) (A0 (pcl Y R T.X0 (A0 (B1 K4 (pv 7) A4) A2)) A2)))))) E1)
   (A7 (B7 (H9 (A0 K2 (A0 (pv 9) (A0 (B4 (ixK K) (B4 (ixK K) (pv 0) (pv 9) (λ_ _=>rfl)) (B1 J0 (B1 K4 (pv 6) A4) (C0 (aD7 K) (by rfl) T.O9 Am (A0 (B4 (ixK K) (pv 0) (pv 9) (λ_ _=>rfl)) A2))) (λ_ _=>rfl)) A2))))))))))))))))),eO3 hS r ?_ q⟩
 have hdl:=dw.len
 refine A8 (K9 (C1 (l7 (e_i v1 (A6 (i:=2)) (by decide)) (A6 (i:=1)))) (λh=>?_) (λh=>E2 ?_))
 .refine A8 (E5 (d:=.int (c / 2)) (e_i v1 (A6 (i:=2)) ⟨by decide,by decide⟩) ?_)
  refine A8 (E5 (d:=.int (c / 2 % 14-1)) (N4 (g:=λi j=>i-j) (e_i v2 (A6 (i:=14)) (by decide)) (A6 (i:=1))) ?_)
  refine A8 (E5 (d:=.int (c / 2 / 14 % 14-1)) (N4 (g:=λi j=>i-j) (e_i (e_i v2 (A6 (i:=14)) ⟨by decide,by decide⟩) (A6 (i:=14)) (by decide)) (A6 (i:=1))) ?_)
  refine A8 (E5 (d:=.int (c / 2 / 196 % 14-1)) (N4 (g:=λi j=>i-j) (e_i (e_i v2 (A6 (i:=196)) ⟨by decide,by decide⟩) (A6 (i:=14)) (by decide)) (A6 (i:=1))) ?_)
  generalize c / 2 % 14-1=x;generalize c / 2 / 14 % 14-1=y;generalize c / 2 / 196 % 14-1=z;obtain⟨d,M,e⟩:=dG7 (S:=[tdD (.put x y z),tdD (.take x),tdD (.flip x y)]) (by simp) (c / 2 / 2744)
  refine E9 (d:=d) (C9 (ds:=[tdD (.put x y z),tdD (.take x),tdD (.flip x y)]) (EF.e' (G3 (A1 (N3 (ds:=[.str "put",.int x,.int y,.int z]) (A1 O1 (A1 v3 (A1 v4 (A1 v5 A5))))) (A1 (N3 (ds:=[.str "take",.int x]) (A1 O1 (A1 v3 A5))) (A1 (N3 (ds:=[.str "flip",.int x,.int y]) (A1 O1 (A1 v3 (A1 v4 A5)))) A5))) (show 3<=sizeLine by decide))) (e_i (e_i v2 (A6 (i:=2744)) ⟨by decide,by decide⟩) (A6 (i:=3)) (by decide)) rfl e) ?_
  simp only[Aa1,Ac2,or_false]at M;rcases M with rfl | rfl | rfl <;> exact⟨_,rfl⟩
 refine A8 (E5 (d:=.int (mx c 3)) (C3 (A1 v1 (A1 A6 A5)) ⟨c,3,⟨by lia,by lia⟩,rfl,rfl⟩) ?_)
 refine A8 (E5 (d:=.int (c / 7)) (e_i v1 (A6 (i:=7)) ⟨by decide,by decide⟩) ?_)
 refine A8 (N2 (ds:=(loL m dr).map tI) (s9 (pre:=cC3) (X:=E0) (A1 v0 A5) ⟨m,dr,tr,dw,rfl,rfl⟩) ?_ (show 8<10 by decide))
 refine bG8 (i:=8) rfl ?_;generalize mx c 3=N;generalize c / 7=g;show W K _ [vD dr,vI c,.no,.no,.no,.no,vI N,vI g,.val (.list ((loL m dr).map tI)),.no] _;have hne:((loL m dr).map tI).length≠0:=by rw[Aa3];exact λz=>eK9 dw (List.length_eq_zero_iff.mp z)
 obtain⟨d,M,ed⟩:=dG7 hne (N / 8);obtain⟨l,hl,rfl⟩:=Aa8.mp M;obtain⟨x,y,z,rfl,lb⟩:=dY3 dw hl;refine A8 (dS6 (m:=true) (d:=.tuple [.int (x:Int),.int (y:Int),.int (z:Int)]) (C9 (ds:=(loL m dr).map tI) v8 (e_i (e_i v6 (A6 (i:=8)) ⟨by decide,by decide⟩) (M9 (ds:=(loL m dr).map tI) (A1 v8 A5)) (by lia)) rfl ed) (cW3 (t4 F8 (t4 F8 (t4 F8 bY3)))) ?_)
 have hdp:(dr.map tN).length≠0:=by rw[Aa3];lia
 obtain⟨p,hp,hpl⟩:∃p:Nat,N / 8 % ((dr.map tN).length:Int)=(p:Int)/\p<m+3:=by
  have h1:=Bq (N / 8) (b:=((dr.map tN).length:Int)) (by lia)
  have h2:=Cd (N / 8) (b:=((dr.map tN).length:Int)) (by lia)
  rw[Aa3,hdl]at h1 h2 ⊢;exact⟨_,(Int.toNat_of_nonneg h1).symm,by lia⟩
 refine A8 (E5 (d:=.int (p:Int)) (by rw[<- hp];exact e_i (e_i v6 (A6 (i:=8)) ⟨by decide,by decide⟩) (M9 (ds:=dr.map tN) (A1 v0 A5)) (by lia)) ?_)
 show W K _ [vD dr,vI c,.no,vI (x:Int),vI (y:Int),vI (z:Int),vI N,vI g,.val (.list ((loL m dr).map tI)),vI (p:Int)] _
 have nx:∀{B:Bool} {k:Int},0<k->k<1073741824->LV.E K B (tOp (rI (λ_ j=>0<j) λi j=>.int (i % j)) (tOp (rI eL5 λi j=>.int (i / j)) (C7 6) (tC (.int 700))) (tC (.int k))) [vD dr,vI c,.no,vI (x:Int),vI (y:Int),vI (z:Int),vI N,vI g,.val (.list ((loL m dr).map tI)),vI (p:Int)] (.int (N / 700 % k)):=λh1 h2=>e_i (e_i v6 (A6 (i:=700)) ⟨by decide,by decide⟩) A6 h1
 have fr:∀{B:Bool},LV.E K B (V3 (spV K cO0) [] E0 (E7 (C7 7) R6)) [vD dr,vI c,.no,vI (x:Int),vI (y:Int),vI (z:Int),vI N,vI g,.val (.list ((loL m dr).map tI)),vI (p:Int)] (.int (bD8 g)):=C3 (A1 v7 A5) ⟨g,rfl,rfl⟩
 have fq:∀{B:Bool} (k:Int),0<k->k<1073741824->LV.E K B (V3 (spV K cO0) [] E0 (E7 (tOp (rI eL5 λi j=>.int (i / j)) (C7 7) (tC (.int k))) R6)) [vD dr,vI c,.no,vI (x:Int),vI (y:Int),vI (z:Int),vI N,vI g,.val (.list ((loL m dr).map tI)),vI (p:Int)] (.int (bD8 (g / k))):=λk h1 h2=>C3 (A1 (e_i v7 (A6 (i:=k)) ⟨h1,h2⟩) A5) ⟨g / k,rfl,rfl⟩
 have t8:∀{j:Int},LV.T K (p6 (tOp rEq (tOp (rI (λ_ j=>0<j) λi j=>.int (i % j)) (C7 6) (tC (.int 8))) (tC (.int j)))) [vD dr,vI c,.no,vI (x:Int),vI (y:Int),vI (z:Int),vI N,vI g,.val (.list ((loL m dr).map tI)),vI (p:Int)] (decide (N % 8=j)):=C1 (l7 (e_i v6 (A6 (i:=8)) (by decide)) A6)
 refine A8 (K9 (C1 (z4 (g:=λi j=>decide (i<j)) (e_i v6 (A6 (i:=8)) (by decide)) (A6 (i:=2)))) (λ_=>?_) (λ_=>E2 ?_))
 .obtain⟨i,ei⟩:=dL7 (l:=[(x:Int),(z:Int),0,(y:Int)]) (by simp) (N / 700)
  obtain⟨j,ej⟩:=dL7 (l:=[(z:Int),(x:Int),(z:Int),(z:Int)]) (by simp) (N / 700)
  exact E9 (N3 (ds:=[.str "put",.int i,.int (y:Int),.int j]) (A1 O1 (A1 (C9 (ds:=[.int (x:Int),.int (z:Int),.int 0,.int (y:Int)]) (EF.e' (G3 (A1 v3 (A1 v5 (A1 A6 (A1 v4 A5)))) (show 4<=sizeLine by decide))) (nx (k:=4) (by decide) (by decide)) rfl ei) (A1 v4 (A1 (C9 (ds:=[.int (z:Int),.int (x:Int),.int (z:Int),.int (z:Int)]) (EF.e' (G3 (A1 v5 (A1 v3 (A1 v5 (A1 v5 A5)))) (show 4<=sizeLine by decide))) (nx (k:=4) (by decide) (by decide)) rfl ej) A5))))) ⟨.put i y j,rfl⟩
 refine A8 (K9 t8 (λ_=>?_) (λ_=>E2 ?_))
 .obtain⟨j,ej⟩:=dL7 (l:=[bD8 (g / 13),(z:Int)]) (by simp) (N / 700)
  exact E9 (N3 (ds:=[.str "put",.int (bD8 g),.int (bD8 (g / 11)),.int j]) (A1 O1 (A1 fr (A1 (fq 11 (by decide) (by decide)) (A1 (C9 (ds:=[.int (bD8 (g / 13)),.int (z:Int)]) (EF.e' (G3 (A1 (fq 13 (by decide) (by decide)) (A1 v5 A5)) (show 2<=sizeLine by decide))) (nx (k:=2) (by decide) (by decide)) rfl ej) A5))))) ⟨.put _ _ j,rfl⟩
 refine A8 (K9 t8 (λ_=>?_) (λ_=>E2 ?_))
 .obtain⟨d,M,e⟩:=dG7 (S:=[tdD (.put 0 2 1),tdD (.put 2 1 0),tdD (.put 0 1 2),tdD (.put x x y)]) (by simp) (N / 700)
  refine E9 (d:=d) (C9 (ds:=[tdD (.put 0 2 1),tdD (.put 2 1 0),tdD (.put 0 1 2),tdD (.put x x y)]) (EF.e' (G3 (A1 (N3 (ds:=[.str "put",.int 0,.int 2,.int 1]) (A1 O1 (A1 A6 (A1 A6 (A1 A6 A5))))) (A1 (N3 (ds:=[.str "put",.int 2,.int 1,.int 0]) (A1 O1 (A1 A6 (A1 A6 (A1 A6 A5))))) (A1 (N3 (ds:=[.str "put",.int 0,.int 1,.int 2]) (A1 O1 (A1 A6 (A1 A6 (A1 A6 A5))))) (A1 (N3 (ds:=[.str "put",.int (x:Int),.int (x:Int),.int (y:Int)]) (A1 O1 (A1 v3 (A1 v3 (A1 v4 A5))))) A5)))) (show 4<=sizeLine by decide))) (nx (k:=4) (by decide) (by decide)) rfl e) ?_
  simp only[Aa1,Ac2,or_false]at M;rcases M with rfl | rfl | rfl | rfl <;> exact⟨_,rfl⟩
 refine A8 (K9 t8 (λ_=>?_) (λ_=>E2 ?_))
 .obtain⟨i,ei⟩:=dL7 (l:=[((dr.map tN).length:Int)-1,(p:Int),((dr.map tN).length:Int),bD8 g]) (by simp) (N / 700)
  exact E9 (N3 (ds:=[.str "take",.int i]) (A1 O1 (A1 (C9 (ds:=[.int (((dr.map tN).length:Int)-1),.int (p:Int),.int ((dr.map tN).length:Int),.int (bD8 g)]) (EF.e' (G3 (A1 (N4 (g:=λi j=>i-j) (M9 (ds:=dr.map tN) (A1 v0 A5)) (A6 (i:=1))) (A1 (B0 (i:=9) rfl) (A1 (M9 (ds:=dr.map tN) (A1 v0 A5)) (A1 fr A5)))) (show 4<=sizeLine by decide))) (nx (k:=4) (by decide) (by decide)) rfl ei) A5))) ⟨.take i,rfl⟩
 refine A8 (K9 t8 (λ_=>?_) (λ_=>E2 ?_))
 .obtain⟨i,ei⟩:=dL7 (l:=[(p:Int),bD8 g]) (by simp) (N / 700)
  exact E9 (N3 (ds:=[.str "flip",.int i,.int (bD8 (g / 11))]) (A1 O1 (A1 (C9 (ds:=[.int (p:Int),.int (bD8 g)]) (EF.e' (G3 (A1 (B0 (i:=9) rfl) (A1 fr A5)) (show 2<=sizeLine by decide))) (nx (k:=2) (by decide) (by decide)) rfl ei) (A1 (fq 11 (by decide) (by decide)) A5)))) ⟨.flip i _,rfl⟩
 have h2:=dw.good.two p hpl
 obtain⟨d,M,e⟩:=dG7 (S:=nI (TT.trn dr p)) (by rw[G5];lia) (N / 700)
 obtain⟨v,_,rfl⟩:=bG7 M;have row:∀{B:Bool},LV.E K B (tOp (rIx K) (C7 0) (C7 9)) [vD dr,vI c,.no,vI (x:Int),vI (y:Int),vI (z:Int),vI N,vI g,.val (.list ((loL m dr).map tI)),vI (p:Int)] (tN (TT.trn dr p)):=C9 (ds:=dr.map tN) v0 (B0 (i:=9) rfl) rfl (dw.at_ hpl);exact E9 (N3 (ds:=[.str "flip",.int (p:Int),.int (v:Int)]) (A1 O1 (A1 (B0 (i:=9) rfl) (A1 (C9 (ds:=nI (TT.trn dr p)) row (e_i (e_i v6 (A6 (i:=700)) ⟨by decide,by decide⟩) (M9 (ds:=nI (TT.trn dr p)) (A1 row A5)) (by rw[G5];lia)) rfl e) A5)))) ⟨.flip p v,rfl⟩
end
set_option maxHeartbeats 1000000
theorem bM1:B8 ["_law_script", "_law_m", "_law_drawing", "_law_cell", "_law_told"] ["_law_script"] (A9 dQ4):={}
def cU4 (K:Frag):Sp:=λvs H Q _=>∃(a:Addr) (ns:AD),vs=[.ref a]/\SqL K H a (ns.map V.int)/\ns.length<=63/\∀H',Q (.bl true) H'
def dG3 (xs:AD)(lo hi:Option Int):AD:=List.take (HT.sIx xs.length xs.length hi-HT.sIx xs.length 0 lo) (List.drop (HT.sIx xs.length 0 lo) xs)
theorem eC8 (xs:AD)(lo hi:Option Int):LV.aD0 (xs.map PyData.int) lo hi=(dG3 xs lo hi).map PyData.int:=by
 unfold LV.aD0 dG3;rw[Aa3,List.map_take,List.map_drop]
theorem eP7 {F G:Nat->Nat}{m:Nat}{f:Nat->Nat}{dr tr:AA}(B:TT.Bt F G m f dr tr)(p:Nat)(hp:p<m+3):TT.B5 (TT.trn dr p)=TT.trn dr p:=by
 obtain⟨v,w,rfl⟩:=B.N.surj p hp;have nd:=B.good.nd (f v);have e:TT.trn dr (f v)=TT.B5 (((TT.gst F G m).row v).map f):=by unfold TT.trn;rw[B.dr v w];rfl
 rw[e]at nd ⊢;exact TT.cG8 (TT.begun_nodup.mp nd)
theorem dP8 {K:Frag}{ρ:List Sl}{mm:Bool}{t0:TE}{tA:TA}{d0 d:PyData}{ds:AF}{pre:AF->PyData->Prop}{preX:AF->(PyData->Prop)->Prop}{post:PyData->Prop}(h0:LV.E K true t0 ρ d0)(U:LV.A K true tA ρ ds)(hp:preX ds post)(J:∀d1,post d1->pre [d0,d1] d) :
  LV.E K mm (V3 (spV K pre) [] E0 (E7 t0 (E7 (V3 (spX K preX) [] E0 tA) R6))) ρ d:=E.bor λS B σ H o I Q q=>h0 S B σ H o I _ λv0 Y e N=>U S B σ Y o (I.grow e) _ λvs P w rs=>by
 have j:=(I.grow e).grow w
 refine⟨ds,F1 ρ o S,post,j.lists,by rw[Ba];exact rs,hp,λd1 v1 H3 z r R=>?_⟩
 have X:=j.grow r
 exact⟨[d0,d1],F1 ρ o S,d,X.lists,by rw[Ba];exact .cons (N.mono (L7 (L2.Same.tr w r))) (.cons R .nil),J d1 z,λv s F M=>q v s (L2.Same.tr e (L2.Same.tr w (L2.Same.tr r F))) M⟩
section
variable {P:Program}{w:World}{K:Frag}{mg:Str->Option Value}{base:Heap}{a:Ad}
theorem eJ9 (T:Tx K mg a):FnOk P w K mg base CX0 10 a.cY2 a.cH2 ["_law_script"] (cU4 K):=by
 have j := @cZ2 P w K mg base a T
 have M := @bC5 P w K mg base a T
 have J := @dG9 P w K mg base a T
 have N := @cT5 P w K mg base a T
 have Y := @eW1 P w K mg base a T
 have X := @eS5 P w K mg base a T
 refine T.eF0.F.ok bM1 (λvs H Q E ⟨_,_,e,_⟩=>by rw[e];rfl) (λcdv A outer s H vs Q E R h=>?_)
 obtain⟨ad,U,rfl,hS,hl,q⟩:=h;have r:Reps K (hid (λ_=>False) H) [V.ref ad] [lI U]:=by rw[dE4];exact .cons (.lst hS (aC6 U)) .nil
 refine⟨_,(A3 (L6 (B9 (bN0 K R) (eP9 K (eA5 T.o7.mke T.o7.kp N (R.mono (by decide)) rfl T.cD3 T.bH0 .nil aI4 (A0 (H9 (A0 A4 (A0 A4 A2))) A2)) rfl) (H9 (A0 A4 (A0 A4 A2))) (D8 _)) (A7 (B7 X4)) E1)
   (A3 (psS 1 bM1 (B1 J0 (pcl M R T.i4 (A0 (pcl j R T.U2 (A0 (pv 0) (A0 A4 A2))) (A0 A4 A2))) A4))
   (A3 (psS 2 bM1 (B4 (ixK K) (pcl J R T.aW3 (A0 (pcl j R T.U2 (A0 (pv 0) (A0 A4 A2))) (A0 (P9 (eR1 K) (pv 0) (S0 A4) (S0 A4)) (A0 (pv 1) A2)))) A4 (λ_ _=>rfl)))
   (A3 (S4 Ao rfl (aA4 (P9 (eR1 K) (pv 0) (S0 A4) (S0 A4))) (pgN 3 bM1) (A7 (L6 (aT6 (y7 (pcl X R T.aE8 (A0 (pv 2) (A0 (pcl Y R T.aH4 (A0 (pv 2) (A0 (pv 3) A2))) A2))))) (A7 (B7 X4)) E1)))
   (A3 (psS 4 bM1 (pcl Y R T.aH4 (A0 (pv 2) (A0 (pcl j R T.U2 (A0 (pv 0) (A0 A4 A2))) A2))))
   (A7 (B7 (pcl X R T.aE8 (A0 (pv 2) (A0 (pv 4) A2)))))))))),M0 (S:=λ_=>False) (λ_ z=>z.elim) r ?_ (d:=.bool true) (λv H' _ rv=>by cases rv;exact q H')⟩
 have f43:Fit (tI [4,3]):=(V1 [4,3]).fit
 have n2:=cK0 (K:=K) (m:=false) (ρ:=sl0 ["_law_script", "_law_m", "_law_drawing", "_law_cell", "_law_told"].length [lI U]) (d:=tI [4,3]) (d':=tI [4,3]) (eT5 (C:=a.G1) (nms:=["pair"]) (E':=E0) (f := "pair") (ds:=[tI [4,3]]) (A1 (N3 (ds:=[.int 4,.int 3]) (A1 A6 (A1 A6 A5))) A5) rfl (λd hd=>by rw[Ad8.mp hd];rfl) (show 1<=1000 by decide) T.o7.gt T.o7.hd T.Z3 rfl rfl) (N3 (ds:=[.int 4,.int 3]) (A1 A6 (A1 A6 A5))) f43 f43
 rw[PySem.SeqAt.eqv_refl _ f43.1]at n2;refine A8 (K9 (b := !true) (C1 n2) (λh=>by cases h) (λh=>E2 ?_))
 obtain⟨m,hm,h7⟩:∃m:Nat,mx (cl U 0) 1 % 8=(m:Int)/\m<=7:=⟨(mx (cl U 0) 1 % 8).toNat,by lia,by lia⟩
 obtain⟨dr,tr,B⟩:=eO7 (TT.aF6 (nu (cl U 1) (dG3 U (some 2) (some 10))) m) (eS4 (cl U 1) m);have dw:Dw m dr tr:=⟨h7,B.dl,B.good⟩;have bg:Bg m dr:=eP7 B;refine A8 (E5 (d:=.int (m:Int)) (by rw[<- hm];exact e_i (C3 (A1 (C3 (A1 v0 (A1 A6 A5)) ⟨U,0,by lia,rfl,rfl⟩) (A1 A6 A5)) ⟨cl U 0,1,⟨by lia,by lia⟩,rfl,rfl⟩) A6 (by decide)) ?_)
 refine A8 (E5 (d:=.tuple (dr.map tN)) (C9 (ds:=[tD dr,tD tr]) (C3 (A1 (C3 (A1 v0 (A1 A6 A5)) ⟨U,1,by lia,rfl,rfl⟩) (A1 (EF.e' (cX0 (ds:=U.map PyData.int) v0 (U1 A6) (U1 A6) (N0 U))) (A1 v1 A5))) ⟨cl U 1,dG3 U (some 2) (some 10),m,dr,tr,h7,B,by rw[eC8],rfl⟩) A6 rfl rfl) ?_)
 show W K _ [.val (lI U),vI (m:Int),vD dr,.no,.no] _
 refine A8 (Y5 (aN3 (ds:=(dG3 U (some 10) (some 40)).map PyData.int) (EF.e' (bU1 (cX0 (ds:=U.map PyData.int) v0 (U1 A6) (U1 A6) (N0 U)) (eC8 U (some 10) (some 40))))) (λi ρ=>∃x3,ρ=[.val (lI U),vI (m:Int),vD dr,x3,.no]) ⟨.no,rfl⟩ ?_ ?_)
 .rintro i d _ hd ⟨x3,rfl⟩;obtain⟨c,_,rfl⟩:=Aa8.mp (Bb hd);refine⟨_,F8,?_⟩;show W K _ [.val (lI U),vI (m:Int),vD dr,vI c,.no] _;exact K9 (b := !true) (bI2 (t_b (dP8 (d:=.bool true) v2 (A1 v2 (A1 v3 A5)) ⟨m,dr,tr,c,dw,rfl,rfl⟩ (by rintro _ ⟨t,rfl⟩;exact⟨m,dr,tr,t,dw,bg,rfl,rfl⟩)))) (λh=>by cases h) (λ_=>E2 ⟨_,rfl⟩)
 .rintro _ ⟨x3,rfl⟩;refine A8 (eJ0 (A1 v2 (A1 (C3 (A1 v0 (A1 A6 A5)) ⟨U,2,by lia,rfl,rfl⟩) A5)) ⟨m,dr,tr,_,dw,rfl,rfl⟩ ?_)
  rintro _ ⟨t,rfl⟩;exact E9 (C3 (A1 v2 (A1 v4 A5)) ⟨m,dr,tr,t,dw,bg,rfl,rfl⟩) rfl
end
theorem fin_of {l:PySem.W.OpenLaw}{w:World}{fa f:Addr}{K:Frag}{mg:Str->Option Value}(r:mg "law" = some (.ref fa))(h:∃a:Ad,Tx K mg a/\a.cY2=f/\∀(s:Shared) (v:Value),BindsTo s a.cH2 ⟨[v],[]⟩ [("_law_script",v)])
  : ∃fd:FuncData,(∀(s:Shared) (v:Value),BindsTo s fd ⟨[v],[]⟩ [("_law_script",v)])/\∀base:Heap,K.In base->base.Ns mainGlobals mg->FnOk l.prog w K mg base CX0 10 fa fd ["_law_script"] (cU4 K):=by
 obtain⟨a,T,Y,j⟩:=h;have e:=r.symm.trans T.eF0.m;cases e;exact⟨a.cH2,j,λbase _ _=>eJ9 T⟩
theorem walk {l:PySem.W.OpenLaw}{q:Program}{loose:AH}{XP:(Str->Option Value)->Heap->Prop}{YP:World->Heap->Prop}{d:DefRec}{K:Params->Frag}(X:l.most=some 63)(e:d.params.defaults=[])
  (j:∀(w:World) (h:Heap),YP w h->(K w.params).In h)
  (F:∀(w:World) (mg:Str->Option Value) (fa:Addr) (h:Heap),(K w.params).In h->h.Ns mainGlobals mg->mg d.name=some (.ref fa) ->
   ∃fd:FuncData,(∀(s:Shared) (u:Value),BindsTo s fd ⟨[u],[]⟩ [("_law_script",u)])/\∀base:Heap,(K w.params).In base->base.Ns mainGlobals mg->FnOk l.prog w (K w.params) mg base CX0 10 fa fd ["_law_script"] (cU4 (K w.params))) :
  PySem.W.WalkO q loose XP YP l.row.toRowW d [] (λf vs=>PySem.call f vs):=
 L2.dV0 (n:=63) (k:=10) (x := "_law_script") (CX:=λ_=>CX0) (sp:=λw=>cU4 (K w.params)) X (by decide) e ⟨rfl,by decide,by decide⟩ j F (λ_ _ a U Y _ r=>⟨a,U,rfl,r,Y,λ_=>rfl⟩) λ_ _ _ _ _ z=>z
end K09
namespace PySem.W.Fast
def tw8210685655288630675:=0
def tw2477330664836780810:=0
def tw15138234653918110639:=0
def tw17406789497245488174:=0
def tw17566865820104993510:=0
def tw15724589183712314657:=0
def tw8107656758917151530:=0
def tw3501586411088315427:=0
def tw16104139809404788761:=0
def tw7172001202865804195:=0
def tw9218949190524195031:=0
def tw6674342376488381691:=0
def tw9757276970703026:=0
def tw2374138423333295397:=0
def tw1217816921999850742:=0
def tw18320802529793469968:=0
def tw16276097929886485334:=0
def tw11314920247134885722:=0
def tw14938513034294193150:=0
def tw14847744796449179189:=0
def tw13237485284286152013:=0
def tw15455545574721026990:=0
def tw13190108555838539068:=0
def tw15565229180088955282:=0
def tw17891513817129380776:=0
def tw12264550837552325997:=0
def tw18203463031703188733:=0
def tw11503577347850371570:=0
def tw8906514471075988228:=0
def tw7715077891327073478:=0
def tw13488445424138299660:=0
def tw7402814249052724684:=0
def tw4967258266060656829:=0
def tw2892790667100574550:=0
def tw2610047623959671524:=0
def tw473991651601152492:=0
def tw10754918339651543108:=0
def tw6520260238569564731:=0
def tw11097337960926253447:=0
def tw7859709415601579934:=0
def tw1432910092276144447:=0
def tw3580176995058998158:=0
def tw12497175516945969193:=0
def tw2035773184728528301:=0
def tw17577126488379128300:=0
def tw17338257954748071093:=0
def tw11212227276863698728:=0
def tw16323580052841070197:=0
def tw11209607657918561704:=0
def tw10789607632493484093:=0
def tw15729090710056862573:=0
def tw5142846634793028285:=0
def tw14310774205544269358:=0
def tw4924538628369666279:=0
def tw2685379895651685373:=0
def tw12511543240924637218:=0
def tw8745510241144598479:=0
def tw11654811336442626399:=0
def tw12369321814719523785:=0
def tw9331962199683923075:=0
def tw14941047523599551684:=0
def tw13895475011606266965:=0
def tw3858097434532490765:=0
def tw13519024867478931200:=0
def tw16553434375023636047:=0
def tw13976292869173855009:=0
def tw3049326507713841595:=0
def tw6358095068724976931:=0
def tw2325941259030910133:=0
def tw8084467822187926956:=0
def tw15735729238447835139:=0
def tw13374460237091012:=0
def tw3380207577156789466:=0
def tw5583663914488673942:=0
def tw10576285741237443258:=0
def tw3325111658614389656:=0
def tw12966626984475990702:=0
def tw14386691483412452350:=0
def tw4228454307648605485:=0
def tw9202496202371746780:=0
def tw13494014965829114148:=0
def tw14718677874378310523:=0
def tw15403381908328934496:=0
def tw8042319030056183975:=0
def tw17285677916111877296:=0
def tw4562214144187675591:=0
def tw1047780302598799250:=0
def tw14864902510965465262:=0
def tw16956452949900824441:=0
def tw4656015439091653434:=0
def tw3384334934569665855:=0
def tw12464760810833831393:=0
def tw10665080588685363194:=0
def tw10676560271383180323:=0
def tw15478927850881539550:=0
def tw15340937910104495043:=0
def tw6821797776187475569:=0
def tw16896868839759844944:=0
def tw11151775903302796086:=0
def tw12920669440571982488:=0
def tw13980234567476213428:=0
def tw6015624120155133919:=0
def tw14516539961835159493:=0
def tw10371269343226895835:=0
def tw4556515040731497680:=0
def tw10702583559991724356:=0
def tw17114339580234859934:=0
def tw14160261208550652662:=0
def tw15106578938475487795:=0
def tw8892894236359214384:=0
def tw16924942941188768046:=0
def tw18200257682625177942:=0
def tw8225979825343046524:=0
def tw5113348110278863778:=0
def tw8707405054509565803:=0
def tw3111097617650538180:=0
def tw10850098101118463627:=0
def tw11077590287232217170:=0
def tw13777742529277406049:=0
def tw14520058894431622477:=0
def tw9284486579328413815:=0
def tw10438354523528421489:=0
def tw15255636606364732626:=0
def tw13136701723182225359:=0
def tw3296953240566196210:=0
def tw14880359572706162603:=0
def tw13132583499622756753:=0
def tw17557279698901081173:=0
def tw1765998934944350939:=0
def tw3107769261258488745:=0
def tw15642922268817708671:=0
def tw12886264855309832856:=0
def tw4535305807092850444:=0
def tw14410953875823546579:=0
def tw4957795028907267119:=0
def tw16691725596625577305:=0
def tw7774508586182553884:=0
def tw15771089171866257172:=0
def tw10361515891636008044:=0
def tw11115844268415441550:=0
def tw4630359021416504629:=0
def tw5096808012040779885:=0
def tw17351878829400303075:=0
def tw16626836886969991964:=0
def tw3182366358862202822:=0
def tw8946955386069090930:=0
def tw16451845170686418735:=0
def tw12261363164736168375:=0
def tw2481264415245502539:=0
def tw3240025296941262627:=0
def tw7477259597870217299:=0
def tw2475247794614643471:=0
def tw15077712071002384141:=0
def tw13388504536816620787:=0
def tw17359175963464405065:=0
def tw3897284914150437082:=0
def tw7795426633858373296:=0
def tw9380083775188150474:=0
def tw12106313440998576299:=0
def tw6451346155355688119:=0
def tw4429635784178378218:=0
def tw3401791693219107138:=0
def tw3582354491138076264:=0
def tw5326368878167380463:=0
def tw1157070407467633042:=0
def tw13757869893807135068:=0
def tw7142855595817749224:=0
def tw7226928417335492002:=0
def tw16435865200487565413:=0
def tw15372371006314107356:=0
def tw4728770443546973809:=0
def tw14651024225931526166:=0
def tw5049992681538364419:=0
def tw9367153746723730539:=0
def tw11756464403728836594:=0
def tw3797210659007684601:=0
def tw7690990216575218367:=0
def tw13738483109952606178:=0
def tw7071390996231726510:=0
def tw12728410771783768962:=0
def tw12538835582163982363:=0
def tw18416179980711348611:=0
def tw1861100939656246458:=0
def tw3590604659157828899:=0
def tw12381880170580871695:=0
def tw105577484663221556:=0
def tw15285276822775168573:=0
def tw994554711174046628:=0
def tw4749317890613283645:=0
def tw4836003737552192439:=0
def tw5692607979372448974:=0
def tw12696814052518851419:=0
def tw4223250949817704755:=0
def tw3011520151873109894:=0
def tw12979956773775491790:=0
def tw13284136407533655220:=0
def tw12038067042533888879:=0
def tw17837106829006653707:=0
def tw8805940597534760394:=0
def tw11061468784035556289:=0
def tw10560341124243253563:=0
def tw16875972791728719065:=0
def tw12529308633753315903:=0
def tw16616451342252411803:=0
def tw14640658791905255961:=0
def tw17664613560704192654:=0
def tw12362116193363433659:=0
def tw15326020166133900683:=0
def tw7750253119469168477:=0
def tw11963286070476028949:=0
def tw8898714862261747777:=0
def tw707702331453258521:=0
def tw5401053588742370330:=0
def tw11418296888065058142:=0
def tw3076390393049177965:=0
def tw5617408112026284895:=0
def tw16716253010962398520:=0
def tw14914309896064944973:=0
def tw2499618269759089577:=0
def tw6719206961790533531:=0
def tw15326556783157387177:=0
def tw5686572401580109914:=0
def tw10486305621645050226:=0
def tw16675650567057862858:=0
def tw17256454388438440900:=0
def tw3213090782549136075:=0
def tw16633101942081516665:=0
def tw8182807983338900293:=0
def tw4117616604047460858:=0
def tw16456819261934570242:=0
def tw4943242728595709828:=0
def tw7694153541082092404:=0
def tw9984512475555830341:=0
def tw8344260037075468743:=0
def tw7645731501329611191:=0
def tw4376716007085090097:=0
def tw4114531126138377222:=0
def tw3712003333580956905:=0
def tw6869952350139060078:=0
def tw1777266942980997164:=0
def tw16401206580149372724:=0
def tw15335067855524386020:=0
def tw1522086523812646593:=0
def tw16849593375256133580:=0
def tw5770945189880565013:=0
def tw13852447671587880511:=0
def tw16013509463763006764:=0
def tw6145218500089127154:=0
def tw7783349565514120805:=0
def tw13891331828498076918:=0
def tw2283925833460165770:=0
def tw7650484141012818856:=0
def tw17373563624520154217:=0
def tw12109921282897160271:=0
def tw17195857723279036477:=0
def tw17611973455133895507:=0
def tw7358725600636941511:=0
def tw12501388202391583141:=0
def tw3222614828900250311:=0
def tw7932341470140981429:=0
end PySem.W.Fast
open PySem PySem.W PyProof.Rows
set_option maxRecDepth 100000 in
set_option maxHeartbeats 0 in
theorem PySem.Challenge.cw_threetrees_k09_deeds_refused_holds : PySem.Challenge.rw_threetrees_k09_deeds_refused.Holds := by
 w_on;o_law;k_head;(case hw=>w_witness2)
 k_fill
 refine K09.walk (l:=PySem.Challenge.rw_threetrees_k09_deeds_refused) rfl rfl (λw h Y=>PySem.W.kIn_of Y) ?F
 case F=>
  intro w mg fa h KX G hmg;refine' K09.fin_of hmg (K09.tx_mk KX G ⟨_,L2.E3 _ _ _⟩ ⟨_,L2.E3 _ _ _⟩ ⟨_,L2.E3 _ _ _⟩ ⟨_,L2.E3 _ _ _⟩ ⟨_,L2.E3 _ _ _⟩ ⟨_,L2.E3 _ _ _⟩ ⟨_,L2.E3 _ _ _⟩ ⟨_,L2.E3 _ _ _⟩ ⟨_,L2.E3 _ _ _⟩ ⟨_,L2.E3 _ _ _⟩ ⟨_,L2.E3 _ _ _⟩ ⟨_,L2.E3 _ _ _⟩ ⟨_,L2.E3 _ _ _⟩ ⟨_,L2.E3 _ _ _⟩ ⟨_,L2.E3 _ _ _⟩ ⟨_,L2.E3 _ _ _⟩ ⟨_,L2.E3 _ _ _⟩ ⟨_,L2.E3 _ _ _⟩ ⟨_,L2.E3 _ _ _⟩ ⟨_,L2.E3 _ _ _⟩ ⟨_,L2.E3 _ _ _⟩ ⟨_,L2.E3 _ _ _⟩ ⟨_,L2.E3 _ _ _⟩ ⟨_,L2.E3 _ _ _⟩ ⟨_,L2.E3 _ _ _⟩ ⟨_,L2.E3 _ _ _⟩ ⟨_,L2.E3 _ _ _⟩ ⟨_,L2.E3 _ _ _⟩ ⟨_,L2.E3 _ _ _⟩ ⟨_,L2.E3 _ _ _⟩ ⟨_,L2.E3 _ _ _⟩ ⟨_,L2.E3 _ _ _⟩ ⟨_,L2.E3 _ _ _⟩ ⟨_,L2.E3 _ _ _⟩ ⟨_,L2.E3 _ _ _⟩ ⟨_,L2.E3 _ _ _⟩ ⟨_,L2.E3 _ _ _⟩ _ _ _ _ _ _ _ _ _ _ _ _ _ _ _ _ _ _ (K09.ex_mk _ _ _) (K09.ex_mk _ _ _) (K09.ex_mk _ _ _) (K09.ex_mk _ _ _) (K09.ex_mk _ _ _) (K09.ex_mk _ _ _) (K09.ex_mk _ _ _) (K09.ex_mk _ _ _) (K09.ex_mk _ _ _) (K09.ex_mk _ _ _) (K09.ex_mk _ _ _) (K09.ex_mk _ _ _) (K09.ex_mk _ _ _) _ _ _ _ _ _ _ _ ⟨_,_,_,_,_⟩ ⟨_,_,_,_,_⟩ ⟨_,_,_,_,_⟩ ⟨_,_,_,_,_⟩ ⟨_,_,_,_,_⟩ (K09.sb_mk _) (K09.sb_mk _) (K09.sb_mk _) (K09.sb_mk _) (K09.sb_mk _) _ _ _ _ _ _ _ _ _ _ _ _ _ _ _ _ _ _ _ ⟨_,_,_,_⟩ ⟨_,_,_,_⟩ _ _ _ _ _ (L2.E3 _ _ _) _ _ _ _ (L2.E3 _ _ _) _ _ (L2.E3 _ _ _) _ _ (L2.E3 _ _ _) _ ⟨_,_,_,_⟩ ⟨_,_,_,_⟩ _ _ _ (L2.E3 _ _ _) _ _ _ _ (L2.E3 _ _ _) _ _ (L2.E3 _ _ _) _ _ (L2.E3 _ _ _) _ ⟨_,_,_,_⟩ ⟨_,_,_,_⟩ _ _ _ _ (L2.E3 _ _ _) _ _ _ _ (L2.E3 _ _ _) _ _ (L2.E3 _ _ _) _ _ (L2.E3 _ _ _) _ _ _ _ _ _)
  any_goals first | k_is | k_exc | kernel_rfl
